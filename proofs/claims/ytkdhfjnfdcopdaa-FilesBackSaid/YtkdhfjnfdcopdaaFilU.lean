/- What is done, in memory; contract of the law's test of how much is looked at. -/
import Derived.Test.YtkdhfjnfdcopdaaFilB
namespace Go.Proofs.Ytkdhfjnfdcopdaa
open Go.RowKit

/-- What is done: which, a number, a name, pieces. -/
abbrev ActT := Int × Int × ByteArray × List (List UInt8)
def BssV (w : World) (Q : Nat → Prop) (v : Value) (ls : List (List UInt8)) : Prop :=
  ∃ (A : Option Addr) (n cap : Nat), v = .slice A n cap ∧ n = ls.length ∧ n ≤ cap ∧ cap ≤ maxLen ∧ Bss w Q A ls
def Acts (w : World) (Q : Nat → Prop) (A : Option Addr) (l : List ActT) : Prop :=
  ∀ (k : Nat) (h : k < l.length), ∃ ad v, A = some ad ∧ Q ad.block ∧ w.cell? (ad.add (k * 4)) = some (.int .i64 (l[k]'h).1) ∧ w.cell? (ad.add (k * 4 + 1)) = some (.int .i64 (l[k]'h).2.1) ∧
    w.cell? (ad.add (k * 4 + 2)) = some (.string (l[k]'h).2.2.1) ∧ w.cell? (ad.add (k * 4 + 3)) = some v ∧ BssV w Q v (l[k]'h).2.2.2
theorem off_addN (a : Addr) (i j : Nat) (h : 0 < j) : (⟨(a.add i).block, (a.add i).off + j, none⟩ : Addr) = a.add (i + j) := by
  unfold Addr.add; split <;> split <;> simp_all <;> omega
theorem BssV.keep {w w' : World} {Q Q' : Nat → Prop} {v : Value} {ls : List (List UInt8)} (h : BssV w Q v ls) (hk : ∀ p : Addr, Q p.block → p.block < w.heap.size → w'.cell? p = w.cell? p) (hq : ∀ k, Q k → k < w.heap.size → Q' k) : BssV w' Q' v ls :=
  let ⟨A, n, cap, h1, h2, h3, h4, h5⟩ := h; ⟨A, n, cap, h1, h2, h3, h4, h5.keep hk hq⟩
theorem Acts.keep {w w' : World} {Q Q' : Nat → Prop} {A : Option Addr} {l : List ActT} (h : Acts w Q A l) (hk : ∀ p : Addr, Q p.block → p.block < w.heap.size → w'.cell? p = w.cell? p) (hq : ∀ k, Q k → k < w.heap.size → Q' k) : Acts w' Q' A l := fun k hlt =>
  let ⟨ad, v, hA, hb, c0, c1, c2, c3, hB⟩ := h k hlt
  have b0 := World.block_lt_of_cell? w _ c0
  have b1 := World.block_lt_of_cell? w _ c1
  have b2 := World.block_lt_of_cell? w _ c2
  have b3 := World.block_lt_of_cell? w _ c3
  ⟨ad, v, hA, hq _ hb (by rwa [block_add] at b0), (hk _ (by rw [block_add]; exact hb) b0).trans c0, (hk _ (by rw [block_add]; exact hb) b1).trans c1, (hk _ (by rw [block_add]; exact hb) b2).trans c2, (hk _ (by rw [block_add]; exact hb) b3).trans c3, hB.keep hk hq⟩
theorem Acts.belowB {w w' : World} {B : Nat} {A : Option Addr} {l : List ActT} (h : Acts w (· < B) A l) (hb : Below B w w') : Acts w' (· < B) A l := h.keep (fun _ hp _ => hb.cell hp) (fun _ hq _ => hq)
theorem Acts.at_ {w : World} {Q : Nat → Prop} {A : Option Addr} {l : List ActT} (h : Acts w Q A l) {k : Nat} (hk : k < l.length) : ∃ ad A' n cap, A = some ad ∧ ad.block < w.heap.size ∧ w.cell? (ad.add (k * 4)) = some (.int .i64 (l[k]'hk).1) ∧
    w.cell? ⟨(ad.add (k * 4)).block, (ad.add (k * 4)).off + 1, none⟩ = some (.int .i64 (l[k]'hk).2.1) ∧ w.cell? ⟨(ad.add (k * 4)).block, (ad.add (k * 4)).off + 2, none⟩ = some (.string (l[k]'hk).2.2.1) ∧
    w.cell? ⟨(ad.add (k * 4)).block, (ad.add (k * 4)).off + 3, none⟩ = some (.slice A' n cap) ∧ n = (l[k]'hk).2.2.2.length ∧ n ≤ cap ∧ cap ≤ maxLen ∧ Bss w Q A' (l[k]'hk).2.2.2 := by
  obtain ⟨ad, v, h1, h2, c0, c1, c2, c3, A', n, cap, rfl, h5, h6, h7, h8⟩ := h k hk
  have hlt := World.block_lt_of_cell? w _ c0
  rw [block_add] at hlt
  exact ⟨ad, A', n, cap, h1, hlt, c0, by rw [off_addN _ _ _ (by omega)]; exact c1, by rw [off_addN _ _ _ (by omega)]; exact c2, by rw [off_addN _ _ _ (by omega)]; exact c3, h5, h6, h7, h8⟩

def smallF (f : Fil) : Prop := f.2.length ≤ 100 ∧ f.1.size ≤ 70
def smallA (a : ActT) : Prop := a.2.2.2.length ≤ 5 ∧ a.2.2.1.size ≤ 70 ∧ ∀ p ∈ a.2.2.2, p.length ≤ 100
def Small (fs : List Fil) (l : List ActT) : Prop := fs.length ≤ 20 ∧ (∀ f ∈ fs, smallF f) ∧ l.length ≤ 40 ∧ ∀ a ∈ l, smallA a

theorem mem_idx {α : Type} {l : List α} {P : α → Prop} (h : ∀ j (hj : j < l.length), j < l.length → P (l[j]'hj)) : ∀ x ∈ l, P x := fun x hx => by
  obtain ⟨j, hj, rfl⟩ := List.mem_iff_getElem.1 hx; exact h j hj hj
def GreatPost (fs : List Fil) (l : List ActT) (e : Ending) : Prop := ∃ b, e = .returned (.bool b) ∧ (b = false → Small fs l)
theorem great_yes (fs : List Fil) (l : List ActT) : GreatPost fs l (.returned (.bool true)) := ⟨true, rfl, fun h => by cases h⟩

set_option maxHeartbeats 4000000 in
theorem great_any (A : Option Addr) (n c : Nat) (fs : List Fil) (A2 : Option Addr) (m c2 : Nat) (l : List ActT) (Q Q2 : Nat → Prop) (w : World) (hn : n = fs.length) (h : Fils w Q A fs)
    (hz : ∀ f ∈ fs, f.1.size ≤ maxLen) (hn2 : m = l.length) (h2 : Acts w Q2 A2 l) (hz2 : ∀ a ∈ l, a.2.2.1.size ≤ maxLen) :
    Calls Try.prog 7 #[.slice A n c, .slice A2 m c2] w fun e w' => GreatPost fs l e ∧ w = w' := by
  have hH := Lib.hid hn
  have hH2 := Lib.hid hn2
  replace h := Lib.hid h
  replace h2 := Lib.hid h2
  replace hz := Lib.hid hz
  replace hz2 := Lib.hid hz2
  clear hn hn2
  go_enter Try.func7, Try.ntmps7
  go_wp2
  go_loop [5] (fun i => ∃ k : Nat, k ≤ n ∧ k ≤ 20 ∧ i = .int .i64 (k : Nat) ∧ Hid (∀ j (hj : j < fs.length), j < k → smallF (fs[j]'hj))) (fun i => 20 - (intOf i).toNat)
  case atStart => exact ⟨0, by omega, by omega, rfl, Lib.hid fun j hj h => absurd h (by omega)⟩
  case round =>
    obtain ⟨k, hk, hk20, rfl, hr⟩ := hrel
    by_cases hlt : k < n ∧ k < 20
    · obtain ⟨hlt, hlt20⟩ := hlt
      have hlk : k < fs.length := by have := hH.out; omega
      obtain ⟨ad, A1, n1, c1, hA, -, hd, he1, hn1, hc1, hm1, -⟩ := h.out.at_ hlk
      subst hA
      have hnx : Hid ((fs[k]'hlk).2.length ≤ 100 → (fs[k]'hlk).1.size ≤ 70 → ∀ j (hj : j < fs.length), j < k + 1 → smallF (fs[j]'hj)) := Lib.hid fun a b j hj hl => by
        rcases Nat.lt_or_ge j k with h1 | h1
        · exact hr.out j hj h1
        · obtain rfl : j = k := by omega
          exact ⟨a, b⟩
      rw [← hn1] at hnx
      have hs := hz.out _ (List.getElem_mem hlk)
      clear hn1
      unfold maxLen at hm1 hs
      generalize (fs[k]'hlk).1 = nm at *
      by_cases a1 : 100 < (n1 : Int)
      · go_wp2
        go_ret
        exact ⟨great_yes _ _, rfl⟩
      · by_cases a2 : 70 < (nm.size : Int)
        · go_wp2
          go_ret
          exact ⟨great_yes _ _, rfl⟩
        · have hR := Lib.hid (hnx.out (by omega) (by omega))
          clear hnx
          go_wp2
          go_round
          case rel => exact ⟨k + 1, by omega, by omega, by go_num, hR⟩
          case measure => simp [intOf]; omega
    · have hF : Hid (n ≤ 20 → ∀ f ∈ fs, smallF f) := Lib.hid fun h20 => mem_idx fun j hj _ => hr.out j hj (by have := hH.out; omega)
      have hlt2 : ¬ (k : Int) < (n : Int) ∨ ¬ (k : Int) < 20 := by omega
      have hcase : ((k : Int) < (n : Int) ∧ ¬ (k : Int) < 20) ∨ ¬ (k : Int) < (n : Int) := by omega
      clear hr hlt hlt2
      have hN : Hid (k < n → 20 < n) := Lib.hid fun h => by omega
      rcases hcase with ⟨q1, q2⟩ | q1
      all_goals go_wp2
      all_goals
        go_loop [6, 7] (fun i _ => ∃ k : Nat, k ≤ m ∧ k ≤ 40 ∧ i = .int .i64 (k : Nat) ∧ Hid (∀ j (hj : j < l.length), j < k → smallA (l[j]'hj))) (fun i _ => 40 - (intOf i).toNat)
        case atStart => exact ⟨0, by omega, by omega, rfl, Lib.hid fun j hj h => absurd h (by omega)⟩
        case round =>
          obtain ⟨k2, hk2, hk40, rfl, hr2⟩ := hrel
          by_cases hlt : k2 < m ∧ k2 < 40
          · obtain ⟨hlt, hlt40⟩ := hlt
            have hlk : k2 < l.length := by have := hH2.out; omega
            obtain ⟨ad, A1, n1, c1, hA, -, -, -, hd, he1, hn1, hc1, hm1, hB⟩ := h2.out.at_ hlk
            subst hA
            have hnx : Hid ((l[k2]'hlk).2.2.2.length ≤ 5 → (l[k2]'hlk).2.2.1.size ≤ 70 → (∀ p ∈ (l[k2]'hlk).2.2.2, p.length ≤ 100) → ∀ j (hj : j < l.length), j < k2 + 1 → smallA (l[j]'hj)) := Lib.hid fun a b c j hj hl => by
              rcases Nat.lt_or_ge j k2 with h1 | h1
              · exact hr2.out j hj h1
              · obtain rfl : j = k2 := by omega
                exact ⟨a, b, c⟩
            have hs := hz2.out _ (List.getElem_mem hlk)
            unfold maxLen at hm1 hs
            generalize (l[k2]'hlk).2.2.1 = nm at *
            generalize (l[k2]'hlk).2.2.2 = ls at *
            rw [← hn1] at hnx
            replace hn1 := Lib.hid hn1
            replace hB := Lib.hid hB
            by_cases a1 : 5 < (n1 : Int)
            · go_wp2
              go_ret
              exact ⟨great_yes _ _, rfl⟩
            · by_cases a2 : 70 < (nm.size : Int)
              · go_wp2
                go_ret
                exact ⟨great_yes _ _, rfl⟩
              · have hR := Lib.hid (hnx.out (by omega) (by omega))
                clear hnx
                go_wp2
                go_loop [7] (fun i => ∃ q : Nat, q ≤ n1 ∧ i = .int .i64 (q : Nat) ∧ Hid (∀ j (hj : j < ls.length), j < q → (ls[j]'hj).length ≤ 100)) (fun i => n1 - (intOf i).toNat)
                case atStart => exact ⟨0, by omega, rfl, Lib.hid fun j hj h => absurd h (by omega)⟩
                case round =>
                  obtain ⟨q, hq, rfl, hrq⟩ := hrel
                  by_cases hqn : q < n1
                  · have hqk : q < ls.length := by have := hn1.out; omega
                    obtain ⟨ad3, A3, n3, c3, hA3, -, hd3, hn3, hc3, hm3, -⟩ := hB.out.at_ hqk
                    subst hA3
                    have hq2 : Hid ((ls[q]'hqk).length ≤ 100 → ∀ j (hj : j < ls.length), j < q + 1 → (ls[j]'hj).length ≤ 100) := Lib.hid fun a j hj hl => by
                      rcases Nat.lt_or_ge j q with h1 | h1
                      · exact hrq.out j hj h1
                      · obtain rfl : j = q := by omega
                        exact a
                    rw [← hn3] at hq2
                    unfold maxLen at hm3
                    clear hn3 hrq
                    by_cases a3 : 100 < (n3 : Int)
                    · go_wp2
                      go_ret
                      exact ⟨great_yes _ _, rfl⟩
                    · have hq3 := Lib.hid (hq2.out (by omega))
                      clear hq2
                      go_wp2
                      go_round
                      case rel => exact ⟨q + 1, by omega, by go_num, hq3⟩
                      case measure => simp [intOf]; omega
                  · have hfin := Lib.hid (hR.out (mem_idx fun j hj _ => hrq.out j hj (by have := hn1.out; omega)))
                    clear hR hrq
                    go_wp2
                    go_round
                    case rel => exact ⟨k2 + 1, by omega, by omega, by go_num, hfin⟩
                    case measure => simp [intOf]; omega
          · have hF2 : Hid (m ≤ 40 → ∀ a ∈ l, smallA a) := Lib.hid fun h40 => mem_idx fun j hj _ => hr2.out j hj (by have := hH2.out; omega)
            have hcase2 : ((k2 : Int) < (m : Int) ∧ ¬ (k2 : Int) < 40) ∨ ¬ (k2 : Int) < (m : Int) := by omega
            clear hr2 hlt
            by_cases b1 : 20 < (n : Int)
            · rcases hcase2 with ⟨r1, r2⟩ | r1
              all_goals go_wp2
              all_goals go_ret
              all_goals exact ⟨great_yes _ _, rfl⟩
            · by_cases b2 : 40 < (m : Int)
              · rcases hcase2 with ⟨r1, r2⟩ | r1
                all_goals go_wp2
                all_goals go_ret
                all_goals exact ⟨great_yes _ _, rfl⟩
              · have hsm : Hid (Small fs l) := Lib.hid ⟨by have := hH.out; omega, hF.out (by omega), by have := hH2.out; omega, hF2.out (by omega)⟩
                rcases hcase2 with ⟨r1, r2⟩ | r1
                all_goals go_wp2
                all_goals go_ret
                all_goals exact ⟨⟨false, rfl, fun _ => hsm.out⟩, rfl⟩
end Go.Proofs.Ytkdhfjnfdcopdaa
