/- Contracts: bytes written with a \ ahead of some (the law's bent); what bytes mean (package scan's meant). -/
import Derived.Test.YtdjnlploddlkbaaOwnB
import Derived.Test.YtdjnlploddlkbaaScnA
import Derived.Deep.QuietTactic
set_option linter.unusedVariables false
set_option linter.unusedSimpArgs false
set_option maxRecDepth 100000
namespace Go.Proofs.Ytdjnlploddlkbaa
open Go.RowKit

section
variable {w : World} {A : Option Addr} {n c : Nat} {b : List UInt8} {B : Nat}
set_option maxHeartbeats 4000000 in
theorem bent_any (d : UInt8) (hn : n = b.length) (hnc : n ≤ c) (hm : c ≤ maxLen) (hB : B ≤ w.heap.size) (h : Byt w B A b) (hl : n ≤ 100000) :
    Calls Try.prog 13 #[.slice A n c, .int .u8 (d.toNat : Int)] w fun e w' => (∃ v, e = .returned v ∧ OwnB w' w.heap.size v (bentL d b)) ∧ Below w.heap.size w w' := by
  unfold maxLen at hm
  have hnh := Lib.hid hn
  have hh := Lib.hid h
  have hBh := Lib.hid hB
  clear h hn hB
  go_enter Try.func13, Try.ntmps13
  go_wp2
  go_loopw [5, 6] (fun v i wr => ∃ (v0 : Value) (k : Nat), v0 = v ∧ k ≤ n ∧ i = .int .i64 (k : Nat) ∧ OwnB wr w.heap.size v (bentL d (b.take k)) ∧ Below w.heap.size w wr) (fun _ i _ => n - (intOf i).toNat)
  case atStart => exact ⟨_, 0, rfl, Nat.zero_le _, rfl, OwnB.nil _ _, Below.refl _ _⟩
  case round =>
    obtain ⟨v, k, rfl, hk, rfl, hown, hbr⟩ := hrel
    have hownh := Lib.hid hown
    have hbrh := Lib.hid hbr
    clear hown hbr
    by_cases hlt : k < n
    · have hkx : k < b.length := by rw [← hnh.out]; exact hlt
      obtain ⟨ad, rfl, had, hc0⟩ := (hh.out.below (hbrh.out.mono hBh.out)).at_ hkx
      have hT := Lib.hid (bentL_take d b hkx)
      have hlen := Lib.hid (show (bentL d (b.take k)).length + 2 ≤ 1000000000 from by have := bentL_len d (b.take k); rw [List.length_take] at this; omega)
      have hkI : (k : Int) < (n : Int) := by omega
      have hw2 : IntKind.i64.wrap ((k : Int) + 1) = (k : Int) + 1 := IntWalk.i64_in _ (by omega)
      have hbrA := Lib.hid (fun o => show Below w.heap.size w (wr.alloc o) from hbrh.out.alloc hbrh.out.size o)
      have hownA := Lib.hid (fun o => show OwnB (wr.alloc o) w.heap.size v (bentL d (b.take k)) from hownh.out.keep ((Below.refl wr.heap.size wr).alloc (Nat.le_refl _) o))
      generalize hx : b[k]'hkx = x at *
      replace hx := Lib.hid hx
      have hxl : x.toNat < 256 := UInt8.toNat_lt x
      have h92 := Lib.hid (fun (wr : World) => show BytV (wr.alloc (.cells #[.int .u8 92] 5)) (wr.heap.size + 1) (.slice (some ⟨wr.heap.size, 0, none⟩) 1 1) [92] from bytv_new wr [92] 1 rfl (by decide))
      have h1x := Lib.hid (fun (wr : World) => show BytV (wr.alloc (.cells #[.int .u8 (x.toNat : Int)] 5)) (wr.heap.size + 1) (.slice (some ⟨wr.heap.size, 0, none⟩) 1 1) [x] from bytv_new wr [x] 1 rfl (by decide))
      have hsrc := Lib.hid (fun (w1 : World) (hb : Below w.heap.size w w1) => (hh.out.below (hb.mono hBh.out)).at_ hkx)
      rw [hx.out] at hsrc
      have hmn := @u8_eq_iff x d
      by_cases hx3 : x = 92 ∨ x = 10 ∨ x = d
      · have hC := Lib.hid (show bn1 d x = [92, x] from if_pos hx3)
        have hs : ((x.toNat : Int) == 92) = true ∨ (((x.toNat : Int) == 92) = false ∧ ((x.toNat : Int) == 10) = true) ∨ (((x.toNat : Int) == 92) = false ∧ ((x.toNat : Int) == 10) = false ∧ ((x.toNat : Int) == (d.toNat : Int)) = true) := by
          rw [← hmn]
          by_cases q1 : x = 92
          · left; rw [q1]; rfl
          have e1 : ((x.toNat : Int) == 92) = false := by rw [beq_eq_false_iff_ne]; intro e; exact q1 (UInt8.toNat_inj.1 (show x.toNat = (92 : UInt8).toNat by have : (92 : UInt8).toNat = 92 := rfl; omega))
          by_cases q2 : x = 10
          · right; left; exact ⟨e1, by rw [q2]; rfl⟩
          have e2 : ((x.toNat : Int) == 10) = false := by rw [beq_eq_false_iff_ne]; intro e; exact q2 (UInt8.toNat_inj.1 (show x.toNat = (10 : UInt8).toNat by have : (10 : UInt8).toNat = 10 := rfl; omega))
          right; right
          exact ⟨e1, e2, by rcases hx3 with q | q | q; exact absurd q q1; exact absurd q q2; exact q⟩
        clear hmn hx3
        replace hxl := Lib.hid hxl
        generalize (x.toNat : Int) = z at *
        generalize (d.toNat : Int) = zd at *
        have hl1 := Lib.hid (show (bentL d (b.take k)).length + ([92] : List UInt8).length ≤ 1000000000 from Nat.le_trans (Nat.le_succ _) hlen.out)
        have hl2 := Lib.hid (show (bentL d (b.take k) ++ [92]).length + ([x] : List UInt8).length ≤ 1000000000 from by rw [List.length_append]; exact hlen.out)
        rcases hs with e1 | ⟨e1, e2⟩ | ⟨e1, e2, e3⟩
        all_goals
          go_wp2_with (first
            | (at_builtin; refine wpList_app rfl (.tmp 33) (.tmp 34) rfl rfl (hownA.out _) rfl (h92.out _) hl1.out (hbrA.out _).size ?_; intro v1 w1 h1 h2; have hb1 := h2.below _ (hbrA.out _); obtain ⟨ad1, ea, -, hc1⟩ := hsrc.out w1 hb1; obtain rfl := Option.some.inj ea; clear ea; have h1h := Lib.hid h1; have hb1h := Lib.hid hb1; clear h1 h2 hb1)
            | (at_builtin; refine wpList_app rfl (.tmp 36) (.tmp 41) rfl rfl (h1h.out.keep ((Below.refl w1.heap.size w1).alloc (Nat.le_refl _) _)) rfl (h1x.out _) hl2.out (hb1h.out.alloc hb1h.out.size _).size ?_; intro v2 w2 h3 h4))
          go_roundw
          case rel => exact ⟨_, k + 1, rfl, by omega, rfl, by rw [hT.out, hC.out]; have := h3; rwa [List.append_assoc] at this, h4.below _ (hb1h.out.alloc hb1h.out.size _)⟩
          case measure => simp [intOf]; omega
      · have hC := Lib.hid (show bn1 d x = [x] from if_neg hx3)
        have e1 : ((x.toNat : Int) == 92) = false := by rw [beq_eq_false_iff_ne]; intro e; exact hx3 (.inl (UInt8.toNat_inj.1 (show x.toNat = (92 : UInt8).toNat by have : (92 : UInt8).toNat = 92 := rfl; omega)))
        have e2 : ((x.toNat : Int) == 10) = false := by rw [beq_eq_false_iff_ne]; intro e; exact hx3 (.inr (.inl (UInt8.toNat_inj.1 (show x.toNat = (10 : UInt8).toNat by have : (10 : UInt8).toNat = 10 := rfl; omega))))
        have e3 : ((x.toNat : Int) == (d.toNat : Int)) = false := by
          cases hq : ((x.toNat : Int) == (d.toNat : Int)) with
          | false => rfl
          | true => exact absurd (.inr (.inr (hmn.2 hq))) hx3
        clear hmn hx3
        replace hxl := Lib.hid hxl
        generalize (x.toNat : Int) = z at *
        generalize (d.toNat : Int) = zd at *
        have hl1 := Lib.hid (show (bentL d (b.take k)).length + ([x] : List UInt8).length ≤ 1000000000 from Nat.le_trans (Nat.le_succ _) hlen.out)
        go_wp2_with (at_builtin; refine wpList_app rfl (.tmp 36) (.tmp 41) rfl rfl (hownA.out _) rfl (h1x.out _) hl1.out (hbrA.out _).size ?_; intro v' w' h1 h2)
        go_roundw
        case rel => exact ⟨_, k + 1, rfl, by omega, rfl, by rw [hT.out, hC.out]; exact h1, h2.below _ (hbrA.out _)⟩
        case measure => simp [intOf]; omega
    · obtain rfl : k = n := by omega
      go_wp2
      go_ret
      refine ⟨⟨_, rfl, ?_⟩, hbrh.out⟩
      have := hownh.out
      rwa [show b.take k = b by rw [hnh.out, List.take_length]] at this
end
end Go.Proofs.Ytdjnlploddlkbaa
