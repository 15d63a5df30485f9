/- Contracts of package brack: closed, Text. -/
import Derived.Test.YtiiaheaadbhomaaBrkW
import Derived.Test.YtiiaheaadbhomaaBrkO
namespace Go.Proofs.Ytiiaheaadbhomaa
open Go.RowKit

theorem join_none (l : List (List UInt8)) : Lib.join l [] = l.flatten := by
  have h : ∀ r : List (List UInt8), Lib.joinTail [] r = r.flatten := fun r => by
    induction r with
    | nil => rfl
    | cons x r ih =>
      have e : Lib.joinTail [] (x :: r) = [] ++ x ++ Lib.joinTail [] r := by simp [Lib.joinTail]
      rw [e, ih]; simp
  cases l with
  | nil => rfl
  | cons x r => rw [Lib.join_cons, h]; rfl
theorem rowsL_len (f : Nat → Bool) (k : Nat) : ∀ c, 256 - c = k → (rowsL f c).flatten.length ≤ 11 * k := by
  induction k using Nat.strongRecOn with
  | ind k ih =>
    intro c hc
    by_cases h : c < 256
    · cases hf : f c with
      | false =>
        rw [rowsL_out h hf]
        have := ih (256 - (c + 1)) (by omega) _ rfl
        omega
      | true =>
        have hr := (runE_spec f (255 - c) c (by omega) hf).1
        rw [rowsL_in h hf, List.flatten_cons, List.length_append]
        have := ih (256 - (runE f c + 1)) (by omega) _ rfl
        have h1 := endT_len (UInt8.ofNat c)
        have h2 := endT_len (UInt8.ofNat (runE f c))
        have : (rowT (UInt8.ofNat c) (UInt8.ofNat (runE f c))).length ≤ 11 := by
          unfold rowT
          split
          · omega
          · rw [List.length_append, List.length_cons]; omega
        omega
    · rw [rowsL_end (by omega)]; simp
theorem textR_len (b : Bool) (f : Nat → Bool) : 2 ≤ (textR b f).length ∧ (textR b f).length ≤ 3000 := by
  have h1 := rowsL_len f 256 0 rfl
  have h2 := rowsL_len (negF f) 256 0 rfl
  unfold textR
  split
  · simp only [List.length_cons, List.length_append, List.length_nil]; omega
  · simp only [List.length_cons, List.length_append, List.length_nil]; omega
/-- What a text's slice is. -/
def TextAt (w : World) (v : Value) (l : List UInt8) : Prop := ∃ A c, v = .slice (some A) l.length c ∧ l.length ≤ c ∧ c ≤ maxLen ∧ Byt w w.heap.size (some A) l
theorem conv_text (w : World) (l : List UInt8) (hl : l.length ≤ 100000) : ∃ v w1, (convert 9 25 (.string ⟨l.toArray⟩)).run Try.prog w = .ok v w1 ∧ TextAt w1 v l ∧ Below w.heap.size w w1 := by
  have hsz : (⟨l.toArray⟩ : ByteArray).size = l.length := by simp [ByteArray.size]
  obtain ⟨cp, w1, h1, h2, h3, -⟩ := conv_bytes w ⟨l.toArray⟩
  have hcap := Lib.run_convert_string_bytes (P := Try.prog) w 9 25 5 ⟨l.toArray⟩ Try.underlying9 Try.underlying25 Try.underlying5
  rw [hcap] at h1
  simp only [Result.ok.injEq, Value.slice.injEq, true_and] at h1
  obtain ⟨-, rfl⟩ := h1
  refine ⟨_, _, hcap, ⟨⟨w.heap.size, 0, none⟩, _, by rw [hsz], grownCap_ge _ _ _ _, grownCap_le_maxLen _ _ _ _ (by unfold maxLen; omega), by simpa using h2⟩, h3⟩

theorem join_any {w : World} {base : Nat} {v : Value} {ss : List ByteArray} {f : Nat → Bool} (h : w.ownsRow base 9 1 v ss.length (ss.map Value.string)) (hs : ss.map (·.data.toList) = rowsL f 0) (hl : ss.length ≤ 256) :
    Calls Try.prog 23 #[v, .string ⟨#[]⟩] w fun e w' => e = .returned (.string ⟨(rowsL f 0).flatten.toArray⟩) ∧ Below w.heap.size w w' := by
  obtain ⟨A, c, rfl, -, hc, hcm, hv⟩ := own_vals h
  have hlen := rowsL_len f 256 0 rfl
  match ss, h, hs, hl, hv with
  | [], _, hs, _, _ =>
    rw [← hs]
    exact (Try.strings_Join_none A c ⟨#[]⟩ w).mono fun e w' ⟨he, hw⟩ => ⟨he, hw ▸ Below.refl _ _⟩
  | s :: r, _, hs, hl, hv =>
    obtain ⟨ad, rfl, hb, hc0⟩ := hv.at_ (k := 0) (by simp)
    have hsp : ad.spot = none := World.cell?_spot (show w.cell? ad = some _ from hc0)
    obtain ⟨b, o, sp⟩ := ad
    obtain rfl : sp = none := hsp
    have := Try.strings_Join b o c (s :: r) ⟨#[]⟩ w (fun j x hx => by
      obtain ⟨hj, rfl⟩ := List.getElem?_eq_some_iff.1 hx
      obtain ⟨ad', he, _, hc'⟩ := hv.at_ (k := j) (by rw [List.length_map]; exact hj)
      obtain rfl := Option.some.inj he
      rw [show (Addr.add ⟨b, o, none⟩ j) = ⟨b, o + j, none⟩ by unfold Addr.add; split <;> simp_all] at hc'
      rw [hc', List.getElem_map]) hb (by omega) hc (by rw [hs]; show (Lib.join (rowsL f 0) []).length ≤ _; rw [join_none]; omega)
    rw [hs] at this
    rw [show (rowsL f 0).flatten = Lib.join (rowsL f 0) (⟨#[]⟩ : ByteArray).data.toList from (join_none _).symm]
    exact this

set_option maxHeartbeats 1000000 in
theorem closed_any {w : World} {base : Nat} {v : Value} {ss : List ByteArray} {f : Nat → Bool} (h : w.ownsRow base 9 1 v ss.length (ss.map Value.string)) (hs : ss.map (·.data.toList) = rowsL f 0) (hl : ss.length ≤ 256) (a : List UInt8) (ha : a.length ≤ 2) :
    Calls Try.prog 12 #[.string ⟨a.toArray⟩, v] w fun e w' => ∃ u, e = .returned u ∧ TextAt w' u (a ++ ((rowsL f 0).flatten ++ [93])) ∧ Below w.heap.size w w' := by
  have hJ := Lib.hid (join_any h hs hl)
  have hlen := rowsL_len f 256 0 rfl
  obtain ⟨A, c, rfl, -, -, -, -⟩ := own_vals h
  generalize (rowsL f 0).flatten = t at *
  have hcv := fun w => conv_text w (a ++ (t ++ [93])) (by simp; omega)
  have hx : (⟨#[]⟩ : ByteArray) = ⟨#[]⟩ := rfl
  have hap : Hid ((⟨a.toArray⟩ : ByteArray) ++ ⟨t.toArray⟩ ++ ⟨#[93]⟩ = ⟨(a ++ (t ++ [93])).toArray⟩) := Lib.hid (bytes_ext (by simp))
  clear h hs hl hx
  go_enter Try.func12, Try.ntmps12
  go_wp2_with (go_at_call 23; refine (hJ.out).mono ?_; rintro e w1 ⟨rfl, hb1⟩; obtain ⟨u, w2, hcv2, htx, hb2⟩ := hcv w1; rw [← hap.out] at hcv2)
  go_ret
  exact ⟨u, rfl, htx, hb1.trans (hb2.mono hb1.size)⟩

/-- Has the set no byte? -/
def voidS (f : Nat → Bool) : Bool := sameS f (ofL [])
theorem voidS_iff (f : Nat → Bool) : voidS f = true ↔ ∀ c, c < 256 → f c = false := by
  unfold voidS
  rw [sameS_iff]
  constructor
  · intro h c hc
    rw [h c hc]; rfl
  · intro h c hc
    rw [h c hc]; rfl
theorem not_set (f : Nat → Bool) (w : World) :
    Calls Try.prog 14 #[.agg (setC f)] w fun e w' => e = .returned (.agg (setC (negF f))) ∧ Below w.heap.size w w' := not_any f w

attribute [local go_sem] setV setC guard_set run_equalIn_lit
set_option maxRecDepth 100000 in
set_option maxHeartbeats 4000000 in
theorem text_any (f : Nat → Bool) (w : World) :
    Calls Try.prog 7 #[setV f] w fun e w' => ∃ u, e = .returned u ∧ TextAt w' u (textR (voidS f) f) ∧ Below w.heap.size w w' := by
  have hz := set_new w f
  have hZ := Lib.hid hz
  have c0 := hz.cell 0 (by decide)
  have c1 := hz.cell 1 (by decide)
  have c2 := hz.cell 2 (by decide)
  have c3 := hz.cell 3 (by decide)
  clear hz
  have hW := Lib.hid (show Below w.heap.size w (w.alloc (.cells (setC f) 24)) from (Below.refl _ _).alloc (Nat.le_refl _) _)
  cases hv : voidS f with
  | true =>
    have hs : sameS f (ofL []) = true := hv
    clear hv
    go_enter Try.func7, Try.ntmps7
    go_wp2
    go_region_with ((go_at_call 11; refine (of_any none 0 0 [] 0 _ rfl (Nat.le_refl _) (by decide) (Nat.zero_le _) (Byt.none_ _ _ _)).mono ?_; rintro e w2 ⟨rfl, hb2⟩; have z2 : SetAt w2 w.heap.size f := (hb2.block w.heap.size hZ.out.lt).trans hZ.out; have z0c := z2.cell 0 (by decide); have z1c := z2.cell 1 (by decide); have z2c := z2.cell 2 (by decide); have z3c := z2.cell 3 (by decide); have hW2 := Lib.hid (hW.out.drew.trans (hb2.mono hW.out.size)); replace z2 := Lib.hid z2))
    all_goals
      go_wp2_with (first
        | (refine wpList_load_row rfl 24 (.tmp 1) rfl w.heap.size rfl 24 _ (0, 0) _ z2.out Try.underlying24 rfl (set_size _) ?_)
        | (go_at_call 14; refine (not_set f _).mono ?_; rintro e w3 ⟨rfl, hb3⟩; have hW3 := Lib.hid (hW2.out.trans (hb3.mono hW2.out.size)))
        | (go_at_call 13; refine (rows_any (negF f) _).mono ?_; rintro e w4 ⟨v, ss, rfl, hss, hsl, hown, hb4⟩; have hW4 := Lib.hid (hW3.out.trans (hb4.mono hW3.out.size)); have hC := Lib.hid (closed_any hown hss hsl [91, 94] (by decide)))
        | (go_at_call 12; refine (hC.out).mono ?_; rintro e w5 ⟨u, rfl, htx, hb5⟩))
      go_ret
      exact ⟨u, rfl, htx, hW4.out.trans (hb5.mono hW4.out.size)⟩
  | false =>
    have hs : sameS f (ofL []) = false := hv
    clear hv
    go_enter Try.func7, Try.ntmps7
    go_wp2
    go_region_with ((go_at_call 11; refine (of_any none 0 0 [] 0 _ rfl (Nat.le_refl _) (by decide) (Nat.zero_le _) (Byt.none_ _ _ _)).mono ?_; rintro e w2 ⟨rfl, hb2⟩; have z2 : SetAt w2 w.heap.size f := (hb2.block w.heap.size hZ.out.lt).trans hZ.out; have z0c := z2.cell 0 (by decide); have z1c := z2.cell 1 (by decide); have z2c := z2.cell 2 (by decide); have z3c := z2.cell 3 (by decide); have hW2 := Lib.hid (hW.out.drew.trans (hb2.mono hW.out.size)); replace z2 := Lib.hid z2))
    all_goals
      go_wp2_with (first
        | (refine wpList_load_row rfl 24 (.tmp 1) rfl w.heap.size rfl 24 _ (0, 0) _ z2.out Try.underlying24 rfl (set_size _) ?_)
        | (go_at_call 13; refine (rows_any f _).mono ?_; rintro e w4 ⟨v, ss, rfl, hss, hsl, hown, hb4⟩; have hW4 := Lib.hid (hW2.out.trans (hb4.mono hW2.out.size)); have hC := Lib.hid (closed_any hown hss hsl [91] (by decide)))
        | (go_at_call 12; refine (hC.out).mono ?_; rintro e w5 ⟨u, rfl, htx, hb5⟩))
      go_ret
      exact ⟨u, rfl, htx, hW4.out.trans (hb5.mono hW4.out.size)⟩
end Go.Proofs.Ytiiaheaadbhomaa
