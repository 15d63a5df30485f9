/- Contracts: what writes a text, a part, all parts (package swap's textWritten, written, joined). -/
import Derived.Test.YtkfdehkembcaoaaSwpD
import Derived.Test.YtkfdehkembcaoaaSwpQ
import Derived.Shelf.Abstract
set_option linter.unusedVariables false
set_option linter.unusedSimpArgs false
set_option maxRecDepth 100000
namespace Go.Proofs.Ytkfdehkembcaoaa
open Go.RowKit

/-- What writes a byte, a text, a part, parts. -/
def wrC (c : UInt8) : List UInt8 := if c.toNat = 10 then [92, 110] else if c.toNat = 92 ∨ c.toNat = 38 then [92, c] else [c]
def wrT (b : List UInt8) : List UInt8 := b.flatMap wrC
def wrP (p : Prt) : List UInt8 := if p.kind = 0 then wrT p.b else if p.kind = 1 ∧ 0 ≤ p.grp ∧ p.grp ≤ 9 then (if p.grp = 0 then [38] else [92, UInt8.ofNat (48 + p.grp.toNat)]) else []
def wrL (l : List Prt) : List UInt8 := l.flatMap wrP
theorem wrC_len (c : UInt8) : (wrC c).length ≤ 2 := by
  unfold wrC
  split
  · decide
  split <;> simp
theorem wrT_len (b : List UInt8) : (wrT b).length ≤ 2 * b.length := by
  induction b with
  | nil => simp [wrT]
  | cons c r ih => have := wrC_len c; unfold wrT at ih ⊢; rw [List.flatMap_cons, List.length_append, List.length_cons]; omega
theorem wrT_take (b : List UInt8) {k : Nat} (h : k < b.length) : wrT (b.take (k + 1)) = wrT (b.take k) ++ wrC (b[k]'h) := by
  unfold wrT
  rw [List.take_add_one, List.getElem?_eq_getElem h, List.flatMap_append]
  simp
theorem wrL_take (l : List Prt) {k : Nat} (h : k < l.length) : wrL (l.take (k + 1)) = wrL (l.take k) ++ wrP (l[k]'h) := by
  unfold wrL
  rw [List.take_add_one, List.getElem?_eq_getElem h, List.flatMap_append]
  simp
theorem wrL_take_len (l : List Prt) (k : Nat) : (wrL (l.take k)).length ≤ (wrL l).length := by
  have : wrL l = wrL (l.take k) ++ wrL (l.drop k) := by unfold wrL; rw [← List.flatMap_append, List.take_append_drop]
  rw [this, List.length_append]; omega
theorem wrP_len (p : Prt) : (wrP p).length ≤ 2 * p.b.length + 2 := by
  unfold wrP
  split
  · have := wrT_len p.b; omega
  split
  · split
    · show 1 ≤ _; omega
    · show 2 ≤ _; omega
  · exact Nat.zero_le _
theorem wrL_len (l : List Prt) (M : Nat) (hM : ∀ p ∈ l, p.b.length ≤ M) : (wrL l).length ≤ l.length * (2 * M + 2) := by
  induction l with
  | nil => simp [wrL]
  | cons p r ih =>
    have h1 := ih fun q hq => hM q (List.mem_cons_of_mem _ hq)
    have h2 := hM p List.mem_cons_self
    have h3 := wrP_len p
    unfold wrL at h1 ⊢
    rw [List.flatMap_cons, List.length_append, List.length_cons, Nat.succ_mul]
    omega
theorem bytv_new (w : World) (l : List UInt8) (n : Nat) (hn : n = l.length) (hm : n ≤ 1000) : BytV (w.alloc (.cells (bv l).toArray 5)) (w.heap.size + 1) (.slice (some ⟨w.heap.size, 0, none⟩) n n) l :=
  ⟨_, _, _, rfl, hn, Nat.le_refl _, by unfold maxLen; omega, byt_new w l 5 (0, 0)⟩
section
variable {w : World} {A : Option Addr} {n c : Nat} {b : List UInt8} {B : Nat} {l : List Prt}
set_option maxHeartbeats 4000000 in
theorem textWritten_any (hn : n = b.length) (hnc : n ≤ c) (hm : c ≤ maxLen) (hB : B ≤ w.heap.size) (h : Byt w B A b) (hl : n ≤ 100000) :
    Calls Try.prog 34 #[.slice A n c] w fun e w' => (∃ v, e = .returned v ∧ OwnB w' w.heap.size v (wrT b)) ∧ Below w.heap.size w w' := by
  unfold maxLen at hm
  have hnh := Lib.hid hn
  have hh := Lib.hid h
  have hBh := Lib.hid hB
  clear h hn hB
  go_enter Try.func34, Try.ntmps34
  go_wp2
  go_loopw [3, 8] (fun v i wr => ∃ (v0 : Value) (k : Nat), v0 = v ∧ k ≤ n ∧ i = .int .i64 (k : Nat) ∧ OwnB wr w.heap.size v (wrT (b.take k)) ∧ Below w.heap.size w wr) (fun _ i _ => n - (intOf i).toNat)
  case atStart => exact ⟨_, 0, rfl, Nat.zero_le _, rfl, OwnB.nil _ _, Below.refl _ _⟩
  case round =>
    obtain ⟨v, k, rfl, hk, rfl, hown, hbr⟩ := hrel
    have hownh := Lib.hid hown
    have hbrh := Lib.hid hbr
    clear hown hbr
    by_cases hlt : k < n
    · have hkx : k < b.length := by rw [← hnh.out]; exact hlt
      obtain ⟨ad, rfl, had, hc0⟩ := (hh.out.below (hbrh.out.mono hBh.out)).at_ hkx
      have hT := Lib.hid (wrT_take b hkx)
      have hlen := Lib.hid (show (wrT (b.take k)).length + 2 ≤ 1000000000 from by have := wrT_len (b.take k); rw [List.length_take] at this; omega)
      have hkI : (k : Int) < (n : Int) := by omega
      have hw2 : IntKind.i64.wrap ((k : Int) + 1) = (k : Int) + 1 := IntWalk.i64_in _ (by omega)
      have hbrA := Lib.hid (fun o => show Below w.heap.size w (wr.alloc o) from hbrh.out.alloc hbrh.out.size o)
      have hownA := Lib.hid (fun o => show OwnB (wr.alloc o) w.heap.size v (wrT (b.take k)) from hownh.out.keep ((Below.refl wr.heap.size wr).alloc (Nat.le_refl _) o))
      generalize hx : b[k]'hkx = x at *
      replace hx := Lib.hid hx
      have hxl : x.toNat < 256 := UInt8.toNat_lt x
      by_cases h10 : x.toNat = 10
      · have hC := Lib.hid (show wrC x = [92, 110] from by unfold wrC; rw [if_pos h10])
        have e10 : ((x.toNat : Int) == 10) = true := by rw [beq_iff_eq]; omega
        have hn2 := Lib.hid (show BytV (wr.alloc (.cells #[.int .u8 92, .int .u8 110] 5)) (wr.heap.size + 1) (.slice (some ⟨wr.heap.size, 0, none⟩) 2 2) [92, 110] from bytv_new wr [92, 110] 2 rfl (by decide))
        replace h10 := Lib.hid h10
        replace hxl := Lib.hid hxl
        generalize (x.toNat : Int) = z at *
        go_wp2_with (at_builtin; refine wpList_app rfl (.tmp 19) (.tmp 20) rfl rfl (hownA.out _) rfl hn2.out hlen.out (hbrA.out _).size ?_; intro v' w' h1 h2)
        go_roundw
        case rel => exact ⟨_, k + 1, rfl, by omega, rfl, by rw [hT.out, hC.out]; exact h1, h2.below _ (hbrA.out _)⟩
        case measure => simp [intOf]; omega
      · have e10 : ((x.toNat : Int) == 10) = false := by rw [beq_eq_false_iff_ne]; omega
        by_cases h92 : x.toNat = 92 ∨ x.toNat = 38
        · have hC := Lib.hid (show wrC x = [92, x] from by unfold wrC; rw [if_neg h10, if_pos h92])
          have hn2 := Lib.hid (show BytV (wr.alloc (.cells #[.int .u8 92, .int .u8 (x.toNat : Int)] 5)) (wr.heap.size + 1) (.slice (some ⟨wr.heap.size, 0, none⟩) 2 2) [92, x] from bytv_new wr [92, x] 2 rfl (by decide))
          rcases h92 with h92 | h92
          · have e92 : ((x.toNat : Int) == 92) = true := by rw [beq_iff_eq]; omega
            replace h10 := Lib.hid h10
            replace h92 := Lib.hid h92
            replace hxl := Lib.hid hxl
            generalize (x.toNat : Int) = z at *
            go_wp2_with (at_builtin; refine wpList_app rfl (.tmp 25) (.tmp 27) rfl rfl (hownA.out _) rfl hn2.out hlen.out (hbrA.out _).size ?_; intro v' w' h1 h2)
            go_roundw
            case rel => exact ⟨_, k + 1, rfl, by omega, rfl, by rw [hT.out, hC.out]; exact h1, h2.below _ (hbrA.out _)⟩
            case measure => simp [intOf]; omega
          · have e92 : ((x.toNat : Int) == 92) = false := by rw [beq_eq_false_iff_ne]; omega
            have e38 : ((x.toNat : Int) == 38) = true := by rw [beq_iff_eq]; omega
            replace h10 := Lib.hid h10
            replace h92 := Lib.hid h92
            replace hxl := Lib.hid hxl
            generalize (x.toNat : Int) = z at *
            go_wp2_with (at_builtin; refine wpList_app rfl (.tmp 25) (.tmp 27) rfl rfl (hownA.out _) rfl hn2.out hlen.out (hbrA.out _).size ?_; intro v' w' h1 h2)
            go_roundw
            case rel => exact ⟨_, k + 1, rfl, by omega, rfl, by rw [hT.out, hC.out]; exact h1, h2.below _ (hbrA.out _)⟩
            case measure => simp [intOf]; omega
        · have hC := Lib.hid (show wrC x = [x] from by unfold wrC; rw [if_neg h10, if_neg h92])
          have hn1 := Lib.hid (show BytV (wr.alloc (.cells #[.int .u8 (x.toNat : Int)] 5)) (wr.heap.size + 1) (.slice (some ⟨wr.heap.size, 0, none⟩) 1 1) [x] from bytv_new wr [x] 1 rfl (by decide))
          have e92 : ((x.toNat : Int) == 92) = false := by rw [beq_eq_false_iff_ne]; omega
          have e38 : ((x.toNat : Int) == 38) = false := by rw [beq_eq_false_iff_ne]; omega
          replace h10 := Lib.hid h10
          replace h92 := Lib.hid h92
          replace hxl := Lib.hid hxl
          generalize (x.toNat : Int) = z at *
          go_wp2_with (at_builtin; refine wpList_app rfl (.tmp 13) (.tmp 15) rfl rfl (hownA.out _) rfl hn1.out (Nat.le_trans (Nat.le_succ _) hlen.out) (hbrA.out _).size ?_; intro v' w' h1 h2)
          go_roundw
          case rel => exact ⟨_, k + 1, rfl, by omega, rfl, by rw [hT.out, hC.out]; exact h1, h2.below _ (hbrA.out _)⟩
          case measure => simp [intOf]; omega
    · obtain rfl : k = n := by omega
      go_wp2
      go_ret
      refine ⟨⟨_, rfl, ?_⟩, hbrh.out⟩
      have := hownh.out
      rwa [show b.take k = b by rw [hnh.out, List.take_length]] at this
theorem bytv_digit (w : World) (m : Nat) (hm : m < 256) : BytV (w.alloc (.cells #[.int .u8 92, .int .u8 (m : Int)] 5)) (w.heap.size + 1) (.slice (some ⟨w.heap.size, 0, none⟩) 2 2) [92, UInt8.ofNat m] := by
  have h := bytv_new w [92, UInt8.ofNat m] 2 rfl (by decide)
  rw [show (bv [92, UInt8.ofNat m]).toArray = #[.int .u8 92, .int .u8 (m : Int)] from by simp [bv, UInt8.toNat_ofNat', Nat.mod_eq_of_lt hm]] at h
  exact h
theorem wrP_text {k g : Int} {b : List UInt8} (h : k = 0) : wrP ⟨k, g, b⟩ = wrT b := by unfold wrP; rw [if_pos h]
theorem wrP_none {k g : Int} {b : List UInt8} (h : k ≠ 0) (h2 : ¬ (k = 1 ∧ 0 ≤ g ∧ g ≤ 9)) : wrP ⟨k, g, b⟩ = [] := by unfold wrP; rw [if_neg h, if_neg h2]
theorem wrP_zero {b : List UInt8} : wrP ⟨1, 0, b⟩ = [38] := rfl
theorem wrP_dig {g : Nat} {b : List UInt8} (h1 : 1 ≤ g) (h9 : g ≤ 9) : wrP ⟨1, (g : Int), b⟩ = [92, UInt8.ofNat (48 + g)] := by
  unfold wrP
  rw [if_neg (show ¬ ((1 : Int) = 0) from by decide), if_pos ⟨rfl, by show (0 : Int) ≤ (g : Int); omega, by show (g : Int) ≤ 9; omega⟩, if_neg (by show ¬ ((g : Int) = 0); omega)]
  rfl
/-- A part that can be written. -/
def CanP (p : Prt) : Prop := p.kind = 0 ∨ (p.kind = 1 ∧ 0 ≤ p.grp ∧ p.grp ≤ 9)
set_option maxHeartbeats 4000000 in
theorem written_any {k g : Int} {v : Value} {b : List UInt8} {B : Nat} (hok : CanP ⟨k, g, b⟩) (hB : B ≤ w.heap.size) (hv : BytV w B v b) (hl : b.length ≤ 100000) :
    Calls Try.prog 22 #[.agg #[.int .i64 k, .int .i64 g, v]] w fun e w' => (∃ u, e = .returned u ∧ BytV w' w'.heap.size u (wrP ⟨k, g, b⟩)) ∧ Below w.heap.size w w' := by
  have hb := Lib.hid ((Below.refl w.heap.size w).alloc (Nat.le_refl _) (.cells #[.int .i64 k, .int .i64 g, v] 45))
  have hP := Lib.hid (held_new w 45 #[.int .i64 k, .int .i64 g, v])
  have hI := Lib.hid (fun w' => isText_any k g v w')
  have hvh := Lib.hid hv
  have hBh := Lib.hid hB
  obtain ⟨A, n, c, rfl, hn, hnc, hcm, hby⟩ := hv
  have hTw := Lib.hid (fun (w' : World) (hb : Below w.heap.size w w') => textWritten_any hn hnc hcm (Nat.le_trans hB hb.size) (hby.below (hb.mono hB)) (by omega))
  have hPh := Lib.hid (fun (w1 : World) (hb1 : Below (w.alloc (.cells #[.int .i64 k, .int .i64 g, .slice A n c] 45)).heap.size (w.alloc (.cells #[.int .i64 k, .int .i64 g, .slice A n c] 45)) w1) => show (w1.cell? ⟨w.heap.size, 0, none⟩ = some (.int .i64 k) ∧ w1.cell? ⟨w.heap.size, 1, none⟩ = some (.int .i64 g) ∧ w1.cell? ⟨w.heap.size, 2, none⟩ = some (.slice A n c)) ∧ Below w.heap.size w w1 from
    ⟨⟨(hP.out.keep hb1).at_ rfl, (hP.out.keep hb1).at_ rfl, (hP.out.keep hb1).at_ rfl⟩, hb.out.trans (hb1.mono hb.out.size)⟩)
  clear hn hnc hcm hby hP hB
  by_cases hk : k = 0
  · have e0 : (k == 0) = true := by rw [beq_iff_eq]; exact hk
    have hR := Lib.hid (wrP_text (g := g) (b := b) hk)
    rw [e0] at hI
    replace hk := Lib.hid hk
    go_enter Try.func22, Try.ntmps22
    go_wp2_with (first
      | (go_at_call 27; refine (hI.out _).mono ?_; rintro e w1 ⟨rfl, hb1⟩; obtain ⟨⟨c0, c1, c2⟩, hb2'⟩ := hPh.out w1 hb1; have hb2 := Lib.hid hb2'; clear hb2' hb1)
      | (go_at_call 34; refine (hTw.out _ hb2.out).mono ?_; rintro e w3 ⟨⟨u, rfl, hu⟩, hb3⟩))
    go_ret
    exact ⟨⟨_, rfl, by rw [hR.out]; exact hu.byt⟩, hb2.out.trans (hb3.mono hb2.out.size)⟩
  · have e0 : (k == 0) = false := by rw [beq_eq_false_iff_ne]; exact hk
    rw [e0] at hI
    obtain ⟨rfl, hg0, hg9⟩ : k = 1 ∧ 0 ≤ g ∧ g ≤ 9 := hok.resolve_left hk
    clear hok
    obtain ⟨m, rfl⟩ := Int.eq_ofNat_of_zero_le (show 0 ≤ g by omega)
    by_cases hm0 : m = 0
    · subst hm0
      have hR := Lib.hid (wrP_zero (b := b))
      have hn1 := Lib.hid (fun (w' : World) => show BytV (w'.alloc (.cells #[.int .u8 38] 5)) (w'.heap.size + 1) (.slice (some ⟨w'.heap.size, 0, none⟩) 1 1) [38] from bytv_new w' [38] 1 rfl (by decide))
      replace hk := Lib.hid hk
      go_enter Try.func22, Try.ntmps22
      go_wp2_with (go_at_call 27; refine (hI.out _).mono ?_; rintro e w1 ⟨rfl, hb1⟩; obtain ⟨⟨c0, c1, c2⟩, hb2'⟩ := hPh.out w1 hb1; have hb2 := Lib.hid hb2'; clear hb2' hb1)
      go_ret
      exact ⟨⟨_, rfl, by show BytV _ _ _ (wrP ⟨1, 0, b⟩); rw [hR.out]; exact (hn1.out _).more (by simp)⟩, hb2.out.alloc hb2.out.size _⟩
    · have hR := Lib.hid (wrP_dig (b := b) (show 1 ≤ m by omega) (show m ≤ 9 by omega))
      have e1 : ((m : Int) == 0) = false := by rw [beq_eq_false_iff_ne]; omega
      obtain ⟨M, hM⟩ : ∃ M, 48 + m = M := ⟨_, rfl⟩
      have hwA : IntKind.u8.wrap (m : Int) = (m : Int) := wrap_u8_small m (by omega)
      have hwB : IntKind.u8.wrap (48 + (m : Int)) = (M : Int) := by rw [show 48 + (m : Int) = (M : Int) by omega]; exact wrap_u8_small M (by omega)
      have hn2 := Lib.hid (fun (w' : World) => bytv_digit w' M (by omega))
      rw [hM] at hR
      replace hM := Lib.hid hM
      replace hm0 := Lib.hid hm0
      replace hk := Lib.hid hk
      go_enter Try.func22, Try.ntmps22
      go_wp2_with (go_at_call 27; refine (hI.out _).mono ?_; rintro e w1 ⟨rfl, hb1⟩; obtain ⟨⟨c0, c1, c2⟩, hb2'⟩ := hPh.out w1 hb1; have hb2 := Lib.hid hb2'; clear hb2' hb1)
      go_ret
      exact ⟨⟨_, rfl, by rw [hR.out]; exact (hn2.out _).more (by simp)⟩, hb2.out.alloc hb2.out.size _⟩
set_option maxHeartbeats 4000000 in
theorem joinedW_any (hn : n = l.length) (hnc : n ≤ c) (hm : c ≤ maxLen) (hB : B ≤ w.heap.size) (hl : Prts w B A l) (hM : (wrL l).length ≤ 1000000) (hb : ∀ p ∈ l, p.b.length ≤ 100000) (hok : ∀ p ∈ l, CanP p) :
    Calls Try.prog 21 #[.slice A n c, .func (.func 22) #[] #[]] w fun e w' => (∃ v, e = .returned v ∧ OwnB w' w.heap.size v (wrL l)) ∧ Below w.heap.size w w' := by
  unfold maxLen at hm
  have eg : ∀ args w, (callFunc 22 args).run Try.prog w = .ok (.enter 22 args) w := enters_of Try.func22 (by kernel_rfl) rfl
  have hnh := Lib.hid hn
  have hBh := Lib.hid hB
  have hlh := Lib.hid hl
  have hMh := Lib.hid hM
  have hbh := Lib.hid hb
  have hokh := Lib.hid hok
  clear hl hn hM hb hB hok
  go_enter Try.func21, Try.ntmps21
  go_wp2
  go_loopw [5, 10] (fun v i wr => ∃ (v0 : Value) (k : Nat), v0 = v ∧ k ≤ n ∧ i = .int .i64 (k : Nat) ∧ OwnB wr w.heap.size v (wrL (l.take k)) ∧ Below w.heap.size w wr) (fun _ i _ => n - (intOf i).toNat)
  case atStart => exact ⟨_, 0, rfl, Nat.zero_le _, rfl, OwnB.nil _ _, Below.refl _ _⟩
  case round =>
    obtain ⟨v, k, rfl, hk, rfl, hown, hbr⟩ := hrel
    have hownh := Lib.hid hown
    have hbrh := Lib.hid hbr
    clear hown hbr
    by_cases hlt : k < n
    · have hkx : k < l.length := by rw [← hnh.out]; exact hlt
      obtain ⟨ad, vb, rfl, had, c0, c1, c2, hvb⟩ := (hlh.out.below (hbrh.out.mono hBh.out)) k hkx
      have hT := Lib.hid (wrL_take l hkx)
      have hlen := Lib.hid (show (wrL (l.take k)).length ≤ 1000000 ∧ (wrL (l.take (k + 1))).length ≤ 1000000 from ⟨Nat.le_trans (wrL_take_len l k) hMh.out, Nat.le_trans (wrL_take_len l (k + 1)) hMh.out⟩)
      have hbk := Lib.hid (hbh.out _ (List.getElem_mem hkx))
      have hE := Lib.hid (fun (w' : World) (hb : Below w.heap.size w w') (hv : BytV w' B vb (l[k]'hkx).b) => written_any (k := (l[k]'hkx).kind) (g := (l[k]'hkx).grp) (b := (l[k]'hkx).b) (hokh.out _ (List.getElem_mem hkx)) (Nat.le_trans hBh.out hb.size) hv hbk.out)
      have hvbh := Lib.hid hvb
      obtain ⟨Av, nv, cv, rfl, -⟩ := hvb
      have hkI : (k : Int) < (n : Int) := by omega
      have hw2 : IntKind.i64.wrap ((k : Int) + 1) = (k : Int) + 1 := IntWalk.i64_in _ (by omega)
      have hbr1 := Lib.hid (fun o => show Below w.heap.size w (wr.alloc o) from hbrh.out.alloc hbrh.out.size o)
      generalize hp : l[k]'hkx = p at *
      obtain ⟨pk, pg, pb⟩ := p
      replace hp := Lib.hid hp
      go_wp2_with (first
        | (go_at_fn 22; refine (hE.out _ (hbr1.out _) (hvbh.out.below ((((Below.refl wr.heap.size wr).alloc (Nat.le_refl _) _)).mono (Nat.le_trans hBh.out hbrh.out.size)))).mono ?_; rintro e w2 ⟨⟨u, rfl, hu⟩, hb2⟩; have hb3 := Lib.hid ((hbr1.out _).trans (hb2.mono (hbr1.out _).size)); have hown2 := Lib.hid (hownh.out.keep ((((Below.refl wr.heap.size wr).alloc (Nat.le_refl _) _)).trans (hb2.mono (by simp)))); have huh := Lib.hid hu; clear hb2 hu)
        | (at_builtin; refine wpList_app rfl (.tmp 14) (.tmp 17) rfl rfl hown2.out rfl huh.out (by have := hlen.out; have h2 := hT.out; rw [h2, List.length_append] at this; omega) hb3.out.size ?_; intro v' w' h1 h2))
      go_roundw
      case rel => exact ⟨_, k + 1, rfl, by omega, rfl, by rw [hT.out]; exact h1, h2.below _ hb3.out⟩
      case measure => simp [intOf]; omega
    · obtain rfl : k = n := by omega
      go_wp2
      go_ret
      refine ⟨⟨_, rfl, ?_⟩, hbrh.out⟩
      have := hownh.out
      rwa [show l.take k = l by rw [hnh.out, List.take_length]] at this
end
end Go.Proofs.Ytkfdehkembcaoaa
