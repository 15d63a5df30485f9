/- Contracts: chain, Cat, Alt. -/
import Derived.Test.YtnfbgpjadnlgbabM12
set_option linter.unusedVariables false
set_option maxRecDepth 100000
namespace Go.Proofs.Ytnfbgpjadnlgbab
open Go.RowKit

/-- One for all that came and the next, and so on: what is answered, and the nodes. -/
noncomputable def chainGo (g : Nat) (kind : Int) : Int → List Nod → List Int → Int × List Nod
  | all, ns, [] => (all, ns)
  | all, ns, p :: r => if canPut ns g (twoN kind all p) = true then chainGo g kind (ns.length : Int) (ns ++ [twoN kind all p]) r else (-1, ns)
noncomputable def chainN (ns : List Nod) (g : Nat) (kind : Int) : List Int → Int × List Nod
  | [] => (-1, ns)
  | x :: r => if okP (ns.length : Int) x = true then chainGo g kind x ns r else (-1, ns)

/-- Nothing of the source turns. -/
def Apart (A : Option Addr) (T : Nat) (v : Value) : Prop := ∀ ad, A = some ad → ad.block ≠ T ∧ some ad.block ≠ v.ownBlock
theorem Vals.chg {w w' : World} {Bs T o : Nat} {A : Option Addr} {v v' : Value} {xs : List Value} (h : Vals w Bs A xs) (hc : Chg w w' T o v v') (hB : Bs ≤ w.heap.size) (ha : Apart A T v) : Vals w' Bs A xs := by
  intro k hk
  obtain ⟨ad, e, hb, hcell⟩ := h k hk
  obtain ⟨h1, h2⟩ := ha ad e
  refine ⟨ad, e, hb, ?_⟩
  rw [World.cell?_of_block (hc.far _ (by rw [block_add]; omega) (by rw [block_add]; exact h1) (by rw [block_add]; exact h2))]
  exact hcell

def RelCh (w : World) (B T o : Nat) (v : Value) (R : Int × List Nod) (g : Nat) (kind : Int) (rest : List Int) (n : Nat) (a i : Value) (wr : World) : Prop :=
  ∃ (k : Nat) (all : Int) (ns : List Nod) (v' : Value), k ≤ n ∧ i = .int .i64 (k : Nat) ∧ a = .int .i64 all ∧ chainGo g kind all ns (rest.drop k) = R ∧ Bldr wr B T o v' ns g ∧ Chg w wr T o v v'
theorem RelCh.mk {w : World} {B T o : Nat} {v : Value} {R : Int × List Nod} {g : Nat} {kind : Int} {rest : List Int} {n : Nat} {a i : Value} {wr : World} (h : ∃ (k : Nat) (all : Int) (ns : List Nod) (v' : Value), k ≤ n ∧ i = .int .i64 (k : Nat) ∧ a = .int .i64 all ∧ chainGo g kind all ns (rest.drop k) = R ∧ Bldr wr B T o v' ns g ∧ Chg w wr T o v v') : RelCh w B T o v R g kind rest n a i wr := h

set_option maxHeartbeats 4000000 in
theorem chain_any (B T o : Nat) (v : Value) (ns : List Nod) (g : Nat) (kind : Int) (ad : Addr) (n c Bs : Nat) (l : List Int) (w : World) (h : Bldr w B T o v ns g) (hn : n = l.length) (hnc : n ≤ c) (hm : c ≤ 9223372036854775807) (h0 : 0 < n)
    (hv : Vals w Bs (some ad) (l.map (Value.int .i64))) (hBs : Bs ≤ w.heap.size) (ha : Apart (some ad) T v) :
    Calls Try.prog 29 #[.pointer (some ⟨T, o, none⟩), .int .i64 kind, .slice (some ad) n c] w (BldRet w B T o v (chainN ns g kind l).1 (chainN ns g kind l).2 g) := by
  obtain ⟨x, r, rfl⟩ : ∃ x r, l = x :: r := by cases l with | nil => simp at hn; omega | cons x r => exact ⟨x, r, rfl⟩
  obtain ⟨m, rfl⟩ : ∃ m, n = m + 1 := ⟨n - 1, by omega⟩
  obtain ⟨d, rfl⟩ : ∃ d, c = d + 1 := ⟨c - 1, by omega⟩
  have hmr : m = r.length := by simpa using hn
  obtain ⟨ad0, e0, -, hx⟩ := hv.at_ (k := 0) (by simp)
  obtain rfl := Option.some.inj e0
  have hx' : w.cell? ad = some (.int .i64 x) := hx
  have hH := Lib.hid (has_any B T o v ns g x w h)
  have hvr : Vals w Bs (some (ad.add 1)) (r.map (Value.int .i64)) := by
    intro k hk
    obtain ⟨ad1, e1, hb1, hc1⟩ := hv (k + 1) (by simpa using hk)
    obtain rfl := Option.some.inj e1
    refine ⟨_, rfl, by rw [block_add]; exact hb1, ?_⟩
    rw [add_two, Nat.add_comm, hc1]; simp
  have har : Apart (some (ad.add 1)) T v := fun a2 e => by
    obtain rfl := Option.some.inj e
    rw [block_add]; exact ha ad rfl
  have hN : chainN ns g kind (x :: r) = if okP (ns.length : Int) x = true then chainGo g kind x ns r else (-1, ns) := rfl
  rw [hN]
  have hh := Lib.hid h
  rw [show ad.add 1 = ⟨ad.block, ad.off + 1, none⟩ from rfl] at hvr har
  have hvh := Lib.hid hvr
  have hah := Lib.hid har
  have hBh := Lib.hid hBs
  have hml := Lib.hid hmr
  clear hv hx e0 ha hn hN h hvr har hBs hmr
  cases hok : okP (ns.length : Int) x
  · rw [hok] at hH
    rw [if_neg (by decide)]
    clear hok
    go_enter Try.func29, Try.ntmps29
    go_wp2_with (go_at_call 20; refine (hH.out).mono ?_; rintro e w' ⟨rfl, rfl⟩)
    go_ret
    exact BldRet.mk rfl hh.out (Chg.of_below (Below.refl _ _))
  · rw [hok] at hH
    rw [if_pos rfl]
    clear hok
    generalize hR : chainGo g kind x ns r = R
    replace hR := Lib.hid hR
    by_cases hd : d = 0
    · obtain rfl : m = 0 := by omega
      subst hd
      go_enter Try.func29, Try.ntmps29
      go_wp2_with (go_at_call 20; refine (hH.out).mono ?_; rintro e w' ⟨rfl, rfl⟩)
      clear hH hx'
      go_loopw [7, 9, 20] (fun a _ i wr => RelCh w B T o v R g kind r 0 a i wr) (fun _ _ i _ => 0 - (intOf i).toNat)
      case atStart => exact RelCh.mk ⟨0, x, ns, v, by omega, rfl, rfl, hR.out, hh.out, Chg.of_below (Below.refl _ _)⟩
      case round =>
        obtain ⟨k, all, ns', v', hk, rfl, rfl, hcg, hBl, hCh⟩ := hrel
        by_cases hlt : k < 0
        · omega
        · obtain rfl : k = 0 := by omega
          rw [List.drop_eq_nil_of_le (by have := hml.out; omega)] at hcg
          have hcg' : (all, ns') = R := hcg
          replace hcg' := Lib.hid hcg'
          replace hBl := Lib.hid hBl
          replace hCh := Lib.hid hCh
          clear hcg
          go_wp2
          go_ret
          exact BldRet.mk (by rw [← hcg'.out]) (by rw [← hcg'.out]; exact hBl.out) hCh.out
    · have hd1 : ¬ d + 1 = 1 := by omega
      go_enter Try.func29, Try.ntmps29
      go_wp2_with (go_at_call 20; refine (hH.out).mono ?_; rintro e w' ⟨rfl, rfl⟩)
      clear hH hx'
      go_loopw [7, 9, 20] (fun a _ i wr => RelCh w B T o v R g kind r m a i wr) (fun _ _ i _ => m - (intOf i).toNat)
      case atStart => exact RelCh.mk ⟨0, x, ns, v, by omega, rfl, rfl, hR.out, hh.out, Chg.of_below (Below.refl _ _)⟩
      case round =>
        obtain ⟨k, all, ns', v', hk, rfl, rfl, hcg, hBl, hCh⟩ := hrel
        by_cases hlt : k < m
        · have hkr : k < r.length := by have := hml.out; omega
          obtain ⟨ad2, e2, -, hd2⟩ := (hvh.out.chg hCh hBh.out hah.out).at_ (k := k) (by rw [List.length_map]; exact hkr)
          obtain rfl := Option.some.inj e2
          rw [List.getElem_map, Addr.add_mid] at hd2
          rw [List.drop_eq_getElem_cons hkr] at hcg
          generalize r[k]'hkr = p at *
          have hP := Lib.hid (put_any B T o v' ns' g (twoN kind all p) wr hBl)
          rw [show nodV (twoN kind all p) = _ from nodV_z kind all p 0 0 0] at hP
          have hcg' : (if canPut ns' g (twoN kind all p) = true then chainGo g kind (ns'.length : Int) (ns' ++ [twoN kind all p]) (r.drop (k + 1)) else (-1, ns')) = R := hcg
          replace hCh := Lib.hid hCh
          clear hcg e2 hBl
          unfold putI putL at hP
          cases hcp : canPut ns' g (twoN kind all p)
          · rw [hcp, if_neg (by decide)] at hcg'
            rw [hcp, if_neg (by decide), if_neg (by decide)] at hP
            replace hcg' := Lib.hid hcg'
            clear hcp
            go_wp2_with (go_at_call 15; refine (hP.out).mono ?_; rintro e w' ⟨v2, rfl, h1, h2⟩; have hB2 := Lib.hid h1; have hC2 := Lib.hid h2; clear h1 h2)
            go_ret
            exact BldRet.mk (by rw [← hcg'.out]) (by rw [← hcg'.out]; exact hB2.out) (hCh.out.trans hC2.out)
          · rw [hcp, if_pos rfl] at hcg'
            rw [hcp, if_pos rfl, if_pos rfl] at hP
            replace hcg' := Lib.hid hcg'
            clear hcp
            generalize ns' ++ [twoN kind all p] = ns2 at *
            generalize ns'.length = L at *
            have hq : ((L : Int) == -1) = false := by rw [beq_eq_false_iff_ne]; omega
            go_wp2_with (go_at_call 15; refine (hP.out).mono ?_; rintro e w' ⟨v2, rfl, h1, h2⟩; have hB2 := Lib.hid h1; have hC2 := Lib.hid h2; clear h1 h2)
            go_roundw
            case rel => exact RelCh.mk ⟨k + 1, (L : Int), ns2, v2, by omega, by go_num, rfl, hcg'.out, hB2.out, hCh.out.trans hC2.out⟩
            case measure => simp [intOf]; omega
        · obtain rfl : k = m := by omega
          rw [List.drop_eq_nil_of_le (by have := hml.out; omega)] at hcg
          have hcg' : (all, ns') = R := hcg
          replace hcg' := Lib.hid hcg'
          replace hBl := Lib.hid hBl
          replace hCh := Lib.hid hCh
          clear hcg
          go_wp2
          go_ret
          exact BldRet.mk (by rw [← hcg'.out]) (by rw [← hcg'.out]; exact hBl.out) hCh.out

/-- What Cat and Alt answer. -/
noncomputable def catR (ns : List Nod) (g : Nat) (l : List Int) : Int × List Nod := if l = [] then (putI ns g emptyN, putL ns g emptyN) else chainN ns g 2 l
noncomputable def altR (ns : List Nod) (g : Nat) (l : List Int) : Int × List Nod := if l = [] then (-1, ns) else chainN ns g 3 l
section
variable (B T o : Nat) (v : Value) (ns : List Nod) (g : Nat) (A : Option Addr) (n c Bs : Nat) (l : List Int) (w : World) (h : Bldr w B T o v ns g) (hn : n = l.length) (hnc : n ≤ c) (hm : c ≤ 9223372036854775807) (hv : Vals w Bs A (l.map (Value.int .i64))) (hBs : Bs ≤ w.heap.size) (ha : Apart A T v)
include h hn hnc hm hv hBs ha
theorem cat_any : Calls Try.prog 38 #[.pointer (some ⟨T, o, none⟩), .slice A n c] w (BldRet w B T o v (catR ns g l).1 (catR ns g l).2 g) := by
  by_cases hl : l = []
  · subst hl
    obtain rfl : n = 0 := by simpa using hn
    rw [show catR ns g [] = (putI ns g emptyN, putL ns g emptyN) from rfl]
    have hE := Lib.hid (empty_any B T o v ns g w h)
    clear h hn hv ha
    go_enter Try.func38, Try.ntmps38
    go_wp2_with (go_at_call 11; refine (hE.out).mono ?_; rintro e w' ⟨v', rfl, h1, h2⟩)
    go_ret
    exact BldRet.mk rfl h1 h2
  · have hn0 : 0 < n := by
      have : l.length ≠ 0 := fun e => hl (List.length_eq_zero_iff.1 e)
      omega
    obtain ⟨ad, e, -, -⟩ := hv.at_ (k := 0) (by simpa using (by omega : 0 < l.length))
    subst e
    have hE := Lib.hid (chain_any B T o v ns g 2 ad n c Bs l w h hn hnc hm hn0 hv hBs ha)
    rw [show catR ns g l = chainN ns g 2 l by simp [catR, hl]]
    have hq : ((n : Int) == 0) = false := by rw [beq_eq_false_iff_ne]; omega
    clear h hn hv ha hl
    generalize chainN ns g 2 l = R at *
    go_enter Try.func38, Try.ntmps38
    go_wp2_with (go_at_call 29; refine (hE.out).mono ?_; rintro e w' ⟨v', rfl, h1, h2⟩)
    go_ret
    exact BldRet.mk rfl h1 h2
theorem alt_any : Calls Try.prog 19 #[.pointer (some ⟨T, o, none⟩), .slice A n c] w (BldRet w B T o v (altR ns g l).1 (altR ns g l).2 g) := by
  by_cases hl : l = []
  · subst hl
    obtain rfl : n = 0 := by simpa using hn
    rw [show altR ns g [] = (-1, ns) from rfl]
    have hE := Lib.hid h
    clear h hn hv ha
    go_enter Try.func19, Try.ntmps19
    go_wp2
    go_ret
    exact BldRet.mk rfl hE.out (Chg.of_below (Below.refl _ _))
  · have hn0 : 0 < n := by
      have : l.length ≠ 0 := fun e => hl (List.length_eq_zero_iff.1 e)
      omega
    obtain ⟨ad, e, -, -⟩ := hv.at_ (k := 0) (by simpa using (by omega : 0 < l.length))
    subst e
    have hE := Lib.hid (chain_any B T o v ns g 3 ad n c Bs l w h hn hnc hm hn0 hv hBs ha)
    rw [show altR ns g l = chainN ns g 3 l by simp [altR, hl]]
    have hq : ((n : Int) == 0) = false := by rw [beq_eq_false_iff_ne]; omega
    clear h hn hv ha hl
    generalize chainN ns g 3 l = R at *
    go_enter Try.func19, Try.ntmps19
    go_wp2_with (go_at_call 29; refine (hE.out).mono ?_; rintro e w' ⟨v', rfl, h1, h2⟩)
    go_ret
    exact BldRet.mk rfl h1 h2
end
end Go.Proofs.Ytnfbgpjadnlgbab
