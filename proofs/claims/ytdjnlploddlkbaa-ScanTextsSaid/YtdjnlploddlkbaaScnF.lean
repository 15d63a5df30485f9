/- Contract: what bytes mean (package scan's meant). What a call on a cursor leaves. -/
import Derived.Test.YtdjnlploddlkbaaScnB
set_option linter.unusedVariables false
set_option linter.unusedSimpArgs false
set_option maxRecDepth 100000
namespace Go.Proofs.Ytdjnlploddlkbaa
open Go.RowKit

theorem mnS_len : ∀ (l t : List UInt8), mnS l = some t → t.length ≤ l.length
  | [], t, h => by cases h; exact Nat.le_refl _
  | [x], t, h => by
    unfold mnS at h
    split at h
    · cases h
    · cases h; exact Nat.le_refl _
  | x :: y :: s, t, h => by
    unfold mnS at h
    split at h
    · obtain ⟨u, hu, rfl⟩ := Option.map_eq_some_iff.1 h
      have := mnS_len s u hu
      simp only [List.length_cons]; omega
    · obtain ⟨u, hu, rfl⟩ := Option.map_eq_some_iff.1 h
      have := mnS_len (y :: s) u hu
      simp only [List.length_cons] at this ⊢; omega
/-- What a call on the cursor leaves: the cursor at another place, all else as it was. -/
structure CurQ (w w' : World) (B C : Nat) (v : Value) (l : List UInt8) (a : Nat) : Prop where
  cur : Cur w' B C v l a
  grown : w.grownBy w' (some C)
section
variable {w w' w2 : World} {B C : Nat} {v : Value} {l : List UInt8} {a a' : Nat}
theorem CurQ.refl (h : Cur w B C v l a) : CurQ w w B C v l a := ⟨h, World.grownBy.refl w _⟩
theorem CurQ.keep (h : CurQ w w' B C v l a) (hb : Below w'.heap.size w' w2) : CurQ w w2 B C v l a := ⟨h.cur.keep hb, grown_keep h.grown hb⟩
theorem CurQ.of_keep (hb : Below w.heap.size w w') (h : CurQ w' w2 B C v l a) : CurQ w w2 B C v l a := ⟨h.cur, keep_grown hb h.grown⟩
theorem CurQ.fresh (h0 : Cur w B C v l a) (h : CurQ w w' B C v l a') {r : Option Nat} (hg : w'.grownBy w2 r) (hr : ∀ k, r = some k → w.heap.size ≤ k) : CurQ w w2 B C v l a' := by
  have hlt := h0.lt
  refine ⟨⟨h.cur.held.grown hg (fun e => by have := hr C e.symm; omega), ?_, h.cur.base, h.cur.le, h.cur.few⟩, ?_⟩
  · refine World.ownsRow.kept h.cur.own hg ?_
    cases hv : v.ownBlock with
    | none => exact .inl rfl
    | some k =>
      refine .inr fun e => ?_
      have h1 := (World.ownsRow.lt h0.own k hv).2
      have h2 := hr k e.symm
      omega
  · have g := h.grown
    refine ⟨hg.os.trans g.os, hg.tape.trans g.tape, hg.output.trans g.output, Nat.le_trans g.size hg.size, fun k hk hne => ?_⟩
    have hsz := g.size
    exact (hg.block k (Nat.lt_of_lt_of_le hk hsz) (fun e => by have := hr k e.symm; omega)).trans (g.block k hk hne)
/-- Bytes of a row are not the cursor's. -/
theorem CurQ.other (h0 : Cur w B C v l a) (h : CurQ w w' B C v l a') {base : Nat} {u : Value} {t : List UInt8} (ho : OwnB w base u t) : OwnB w' base u t := by
  refine World.ownsRow.kept ho h.grown ?_
  cases hv : u.ownBlock with
  | none => exact .inl rfl
  | some k => exact .inr fun e => h0.held.not_own ho (by decide) (by rw [hv, e])
theorem CurQ.below (h0 : Cur w B C v l a) (h : CurQ w w' B C v l a') : Below B w w' :=
  (Below.refl B w).grown h.grown (Nat.le_of_lt (Nat.lt_of_le_of_lt h0.base h0.lt)) (fun k e => by cases e; exact h0.base)
end
section
variable {w : World} {A : Option Addr} {n c : Nat} {b : List UInt8} {B : Nat}
/-- What meant answers. -/
def MnQ (w : World) (l : List UInt8) (e : Ending) (w' : World) : Prop :=
  (match mnS l with
  | none => e = .returned (.tuple #[.slice none 0 0, .bool false])
  | some t => ∃ v, e = .returned (.tuple #[v, .bool true]) ∧ OwnB w' w.heap.size v t) ∧ Below w.heap.size w w'
theorem MnQ.no {w w' : World} {l : List UInt8} (h : mnS l = none) (hb : Below w.heap.size w w') : MnQ w l (.returned (.tuple #[.slice none 0 0, .bool false])) w' := by unfold MnQ; rw [h]; exact ⟨rfl, hb⟩
theorem MnQ.yes {w w' : World} {l t : List UInt8} (h : mnS l = some t) {v : Value} (ho : OwnB w' w.heap.size v t) (hb : Below w.heap.size w w') : MnQ w l (.returned (.tuple #[v, .bool true])) w' := by unfold MnQ; rw [h]; exact ⟨⟨v, rfl, ho⟩, hb⟩
theorem mn_step {l out r : List UInt8} {x : UInt8} (h : mnS l = (mnS (x :: r)).map (out ++ ·)) (hx : x ≠ 92) : mnS l = (mnS r).map ((out ++ [x]) ++ ·) := by
  rw [h, mnS_go hx, Option.map_map]
  congr 1
  funext t
  simp
theorem mn_two {l out r : List UInt8} {y : UInt8} (h : mnS l = (mnS (92 :: y :: r)).map (out ++ ·)) : mnS l = (mnS r).map ((out ++ [y]) ++ ·) := by
  rw [h, mnS_two, Option.map_map]
  congr 1
  funext t
  simp
set_option maxHeartbeats 4000000 in
theorem meant_any (hn : n = b.length) (hnc : n ≤ c) (hm : c ≤ maxLen) (hB : B ≤ w.heap.size) (h : Byt w B A b) (hl : n ≤ 1000000) :
    Calls Try.prog 31 #[.slice A n c] w fun e w' => MnQ w b e w' := by
  unfold maxLen at hm
  obtain ⟨i0, hi0, hq0, hq1, hq2⟩ := sw_parts sw_u8
  have hnh := Lib.hid hn
  have hh := Lib.hid h
  have hBh := Lib.hid hB
  have hI2 := Lib.hid hq2
  clear h hn hB hq2
  go_enter Try.func31, Try.ntmps31
  go_wp2_with (at_make; refine wpList_make_own _ rfl _ _ 24 rfl w.heap.size 5 i0 _ 1 Try.underlying24 hi0 hq0 hq1 _ _ _ (n + 1) rfl rfl (by push_cast; rfl) (by rw [hI2.out]; omega) (by unfold maxLen; omega) (Nat.le_refl _) ?_; intro w1 hown1 hg1)
  have hb1 : Below w.heap.size w w1 := (Below.refl _ _).grown hg1 (Nat.le_refl _) (by simp)
  go_loopw [4, 5] (fun v i wr => ∃ (v0 : Value) (k : Nat) (out : List UInt8), v0 = v ∧ k ≤ n ∧ i = .int .i64 (k : Nat) ∧ OwnB wr w.heap.size v out ∧ out.length ≤ k ∧ Hid (mnS b = (mnS (b.drop k)).map (out ++ ·)) ∧ Below w.heap.size w wr) (fun _ i _ => n - (intOf i).toNat)
  case atStart => exact ⟨_, 0, [], rfl, Nat.zero_le _, rfl, hown1, Nat.le_refl _, Lib.hid (by rw [List.drop_zero]; cases mnS b <;> rfl), hb1⟩
  case round =>
    obtain ⟨v, k, out, rfl, hk, rfl, hown, hol, hP, hbr⟩ := hrel
    clear hown1 hb1 hg1
    have hownh := Lib.hid hown
    have hbrh := Lib.hid hbr
    clear hown hbr
    by_cases hlt : k < n
    · have hkx : k < b.length := by rw [← hnh.out]; exact hlt
      obtain ⟨ad, rfl, had, hc0⟩ := (hh.out.below (hbrh.out.mono hBh.out)).at_ hkx
      rw [List.drop_eq_getElem_cons hkx] at hP
      have hkI : (k : Int) < (n : Int) := by omega
      have hw2 : IntKind.i64.wrap ((k : Int) + 1) = (k : Int) + 1 := IntWalk.i64_in _ (by omega)
      have hw3 : IntKind.i64.wrap ((k : Int) + 1 + 1) = (k : Int) + 1 + 1 := IntWalk.i64_in _ (by omega)
      have hbrA := Lib.hid (fun o => show Below w.heap.size w (wr.alloc o) from hbrh.out.alloc hbrh.out.size o)
      have hownA := Lib.hid (fun o => show OwnB (wr.alloc o) w.heap.size v out from hownh.out.keep ((Below.refl wr.heap.size wr).alloc (Nat.le_refl _) o))
      have h1x := Lib.hid (fun (x : UInt8) => show BytV (wr.alloc (.cells #[.int .u8 (x.toNat : Int)] 5)) (wr.heap.size + 1) (.slice (some ⟨wr.heap.size, 0, none⟩) 1 1) [x] from bytv_new wr [x] 1 rfl (by decide))
      have hl1 := Lib.hid (fun (x : UInt8) => show out.length + ([x] : List UInt8).length ≤ 1000000000 from by simp only [List.length_singleton]; omega)
      generalize hx : b[k]'hkx = x at *
      replace hx := Lib.hid hx
      have hxl : x.toNat < 256 := UInt8.toNat_lt x
      by_cases h92 : x = 92
      · have e1 : ((x.toNat : Int) == 92) = true := by rw [h92]; rfl
        subst h92
        by_cases hlt2 : k + 1 < n
        · have hkx2 : k + 1 < b.length := by rw [← hnh.out]; exact hlt2
          obtain ⟨ad2, ea, -, hc1⟩ := (hh.out.below (hbrh.out.mono hBh.out)).at_ hkx2
          obtain rfl := Option.some.inj ea
          clear ea
          rw [List.drop_eq_getElem_cons hkx2] at hP
          have hkI2 : (k : Int) + 1 < (n : Int) := by omega
          have hne2 : (((k : Int) + 1) == (n : Int)) = false := by rw [beq_eq_false_iff_ne]; omega
          generalize hy : b[k + 1]'hkx2 = y at *
          replace hy := Lib.hid hy
          have hP2 := Lib.hid (mn_two hP.out)
          have h1y := Lib.hid (h1x.out y)
          have hl1y := Lib.hid (hl1.out y)
          have hyl : y.toNat < 256 := UInt8.toNat_lt y
          clear h1x hl1
          generalize (y.toNat : Int) = zy at *
          have hc2 : wr.cell? ⟨ad.block, ad.off + (k + 1), none⟩ = some (.int .u8 zy) := hc1
          go_wp2_with (at_builtin; refine wpList_app rfl (.tmp 27) (.tmp 32) rfl rfl (hownA.out _) rfl h1y.out hl1y.out (hbrA.out _).size ?_; intro v2 w2 h1 h2)
          go_roundw
          case rel => exact ⟨_, k + 2, _, rfl, by omega, by go_num, h1, by simp only [List.length_append, List.length_singleton]; omega, hP2, h2.below _ (hbrA.out _)⟩
          case measure => simp [intOf]; omega
        · obtain rfl : n = k + 1 := by omega
          have hR := Lib.hid (show mnS b = none from by
            rw [hP.out, List.drop_eq_nil_of_le (by rw [← hnh.out]; exact Nat.le_refl _)]; rfl)
          clear h1x hl1
          go_wp2
          go_ret2
          exact MnQ.no hR.out hbrh.out
      · have e1 : ((x.toNat : Int) == 92) = false := by rw [beq_eq_false_iff_ne]; intro e; exact h92 (UInt8.toNat_inj.1 (show x.toNat = (92 : UInt8).toNat by have : (92 : UInt8).toNat = 92 := rfl; omega))
        have hP2 := Lib.hid (mn_step hP.out h92)
        have h1y := Lib.hid (h1x.out x)
        have hl1y := Lib.hid (hl1.out x)
        have hne2 : ((k : Int) == (n : Int)) = false := by rw [beq_eq_false_iff_ne]; omega
        clear h1x hl1 h92
        generalize (x.toNat : Int) = z at *
        go_wp2_with (at_builtin; refine wpList_app rfl (.tmp 27) (.tmp 32) rfl rfl (hownA.out _) rfl h1y.out hl1y.out (hbrA.out _).size ?_; intro v2 w2 h1 h2)
        go_roundw
        case rel => exact ⟨_, k + 1, _, rfl, by omega, by go_num, h1, by simp only [List.length_append, List.length_singleton]; omega, hP2, h2.below _ (hbrA.out _)⟩
        case measure => simp [intOf]; omega
    · obtain rfl : k = n := by omega
      have hR := Lib.hid (show mnS b = some out from by
        rw [hP.out, List.drop_eq_nil_of_le (by rw [← hnh.out]; exact Nat.le_refl _)]
        show some (out ++ []) = _
        rw [List.append_nil])
      go_wp2
      go_ret2
      exact MnQ.yes hR.out hownh.out hbrh.out
end
end Go.Proofs.Ytdjnlploddlkbaa
