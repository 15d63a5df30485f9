/- Contracts of the references of package files that make: Copy, Get, Put, Cut; the law's length. -/
import Derived.Test.YtkdhfjnfdcopdaaFilB
import Derived.Test.YtkdhfjnfdcopdaaFilG
import Derived.Test.YtkdhfjnfdcopdaaSmB
import Derived.OwnWalk
namespace Go.Proofs.Ytkdhfjnfdcopdaa
open Go.RowKit

theorem file_info2 : (Try.prog.info? 52).map (fun i => (i.zero, i.size, i.bytes)) = some (some (.agg #[.string ByteArray.empty, .slice none 0 0]), 2, 40) := by kernel_rfl
theorem byte_info4 : (Try.prog.info? 5).map (fun i => (i.zero, i.size, i.bytes)) = some (some (.int .u8 0), 1, 1) := by kernel_rfl
theorem sizeB (w : World) (o : Obj) : (w.alloc o).heap.size = w.heap.size + 1 := by simp

theorem copy_any (A : Option Addr) (n c : Nat) (l : List UInt8) (Q : Nat → Prop) (w : World) (hn : n = l.length) (hbig : n ≤ 140737488355328) (h : BytQ w Q A l) :
    Calls Try.prog 30 #[.slice A n c] w fun e w' => ∃ v, e = .returned v ∧ w'.ownsRow w.heap.size 5 1 v l.length (bv l) ∧ Below w.heap.size w w' := by
  have hb1 : Below w.heap.size w (w.alloc (.cells #[] 5)) := (Below.refl _ w).alloc (Nat.le_refl _) _
  have hown : (w.alloc (.cells #[] 5)).ownsRow w.heap.size 5 1 (.slice (some ⟨w.heap.size, 0, none⟩) 0 0) 0 [] := World.ownsRow_made w #[] 0 (Nat.le_refl _) (by simp [maxLen]) rfl
  have hsrc : Src (w.alloc (.cells #[] 5)) A (bv l) := (h.byt.below hb1).vals.src
  obtain ⟨i0, hi, hz0, hz1, hz2⟩ := info_parts byte_info4
  have hI1 := Lib.hid hz1
  have hI2 := Lib.hid hz2
  replace hn := Lib.hid hn
  clear hz1 hz2 h
  go_enter Try.func30, Try.ntmps30
  go_wp2_with (at_builtin; refine wpList_append_at rfl _ _ 35 rfl w.heap.size 5 i0 (.int .u8 0) 1 1 Try.underlying35 hi hz0 hI1.out hI2.out rfl (by decide) (.slice (some ⟨w.heap.size, 0, none⟩) 0 0) 0 [] rfl hown A n c (bv l) rfl (by rw [bv_length, Nat.mul_one]; exact hn.out.symm) hsrc (by intro u hu; obtain ⟨x, _, rfl⟩ := List.mem_map.1 hu; rfl) (by unfold maxLen; omega) (by omega) (by rw [sizeB]; omega) ?_; intro v4 w4 hown4 hg4 hb4)
  go_ret
  refine ⟨_, rfl, ?_, hb1.grown hg4 (by rw [sizeB]; omega) (fun k e => by injection e with e; have e : w.heap.size = k := e; omega)⟩
  rw [← hn.out]
  simpa using hown4

theorem refGet_any (A : Option Addr) (n c : Nat) (fs : List Fil) (nm : ByteArray) (Q : Nat → Prop) (w : World) (hn : n = fs.length) (hnc : n ≤ c) (hm : c ≤ maxLen) (h : Fils w Q A fs) :
    Calls Try.prog 14 #[.slice A n c, .string nm] w fun e w' => (∃ A1 n1 c1, e = .returned (.slice A1 n1 c1) ∧ n1 = (getF fs nm).length ∧ n1 ≤ c1 ∧ c1 ≤ maxLen ∧ BytQ w Q A1 (getF fs nm)) ∧ w = w' := by
  have hP := at_any A n c fs nm Q w hn hnc hm h
  unfold maxLen at hm
  cases hp : posN fs nm with
  | none =>
    rw [posI_neg hp] at hP
    rw [getF_none hp]
    replace hP := Lib.hid hP
    clear hn h hp
    go_enter Try.func14, Try.ntmps14
    go_wp2_with (go_at_call 20; refine (hP.out).mono ?_; rintro e w1 ⟨rfl, rfl⟩)
    go_ret
    exact ⟨⟨none, 0, 0, rfl, rfl, Nat.le_refl _, by simp [maxLen], fun _ h => absurd h (by simp)⟩, rfl⟩
  | some k =>
    obtain ⟨hk, -⟩ := posN_lt hp
    rw [posI_some hp] at hP
    rw [getF_some hp hk]
    obtain ⟨ad, A1, n1, c1, hA, hbk, hd, he1, hn1, hc1, hm1, hB1⟩ := h.at_ hk
    subst hA
    have hkn : k < n := by omega
    replace hP := Lib.hid hP
    have hfin := Lib.hid (And.intro hn1 (And.intro hc1 (And.intro hm1 hB1)))
    clear hn h hp hn1 hB1 hm1
    go_enter Try.func14, Try.ntmps14
    go_wp2_with (go_at_call 20; refine (hP.out).mono ?_; rintro e w1 ⟨rfl, rfl⟩)
    go_ret
    exact ⟨⟨A1, n1, c1, rfl, hfin.out⟩, rfl⟩

theorem length_any (A : Option Addr) (n c : Nat) (fs : List Fil) (nm : ByteArray) (Q : Nat → Prop) (w : World) (hn : n = fs.length) (hnc : n ≤ c) (hm : c ≤ maxLen) (h : Fils w Q A fs) :
    Calls Try.prog 23 #[.slice A n c, .string nm] w fun e w' => e = .returned (.int .i64 (lenF fs nm)) ∧ w = w' := by
  have hP := at_any A n c fs nm Q w hn hnc hm h
  unfold maxLen at hm
  cases hp : posN fs nm with
  | none =>
    rw [posI_neg hp] at hP
    have hL : lenF fs nm = -1 := by simp [lenF, hp]
    rw [hL]
    replace hP := Lib.hid hP
    clear hn h hp hL
    go_enter Try.func23, Try.ntmps23
    go_wp2_with (go_at_call 20; refine (hP.out).mono ?_; rintro e w1 ⟨rfl, rfl⟩)
    go_ret
    exact ⟨rfl, rfl⟩
  | some k =>
    obtain ⟨hk, -⟩ := posN_lt hp
    rw [posI_some hp] at hP
    have hL : lenF fs nm = ((fs[k]'hk).2.length : Int) := by simp only [lenF, hp]; rw [getF_some hp hk]
    rw [hL]
    obtain ⟨ad, A1, n1, c1, hA, hbk, hd, he1, hn1, hc1, hm1, hB1⟩ := h.at_ hk
    subst hA
    rw [← hn1]
    have hkn : k < n := by omega
    replace hP := Lib.hid hP
    clear hn h hp hn1 hB1 hL
    unfold maxLen at hm1
    go_enter Try.func23, Try.ntmps23
    go_wp2_with (go_at_call 20; refine (hP.out).mono ?_; rintro e w1 ⟨rfl, rfl⟩)
    go_ret
    exact ⟨rfl, rfl⟩

/-- What is read of files, as cells. -/
theorem Fils.cells {w : World} {Q : Nat → Prop} {A : Option Addr} {fs : List Fil} (h : Fils w Q A fs) : ∃ vs : List Value, vs.length = fs.length ∧ Src w A (filCells vs fs) ∧ (∀ (k : Nat) (x : Value) (y : Fil), vs[k]? = some x → fs[k]? = some y → FilB w Q x y.2) ∧ (∀ u ∈ filCells vs fs, u.oneCell' = true) := by
  obtain ⟨f, hfd⟩ : ∃ f : Nat → Value, ∀ k, f k = (A.bind fun ad => w.cell? (ad.add (k * 2 + 1))).getD (.bool false) := ⟨_, fun _ => rfl⟩
  have hf : ∀ k (hk : k < fs.length), ∃ ad, A = some ad ∧ w.cell? (ad.add (k * 2)) = some (.string (fs[k]'hk).1) ∧ w.cell? (ad.add (k * 2 + 1)) = some (f k) ∧ FilB w Q (f k) (fs[k]'hk).2 := by
    intro k hk
    obtain ⟨ad, v, hA, _, hc, hd, hB⟩ := h k hk
    have e : f k = v := by rw [hfd, hA, Option.bind_some, hd, Option.getD_some]
    exact ⟨ad, hA, hc, by rw [e]; exact hd, by rw [e]; exact hB⟩
  have hl : ((List.range fs.length).map f).length = fs.length := by simp
  refine ⟨(List.range fs.length).map f, hl, ?_, ?_, ?_⟩
  · intro j u hu
    have hj : j < fs.length * 2 := by have := (List.getElem?_eq_some_iff.1 hu).1; rwa [filCells_length _ _ hl] at this
    obtain ⟨k, hk⟩ : ∃ k, j = k * 2 ∨ j = k * 2 + 1 := ⟨j / 2, by omega⟩
    have hkl : k < fs.length := by omega
    obtain ⟨h1, h2⟩ := filCells_at ((List.range fs.length).map f) fs hl k hkl
    obtain ⟨ad, hA, hc, hd, -⟩ := hf k hkl
    refine ⟨ad, hA, ?_⟩
    rcases hk with rfl | rfl
    · rw [h1] at hu; injection hu with hu; rw [← hu]; exact hc
    · rw [h2] at hu
      simp [hkl] at hu
      rw [← hu]; exact hd
  · intro k x y hx hy
    obtain ⟨hk, rfl⟩ := List.getElem?_eq_some_iff.1 hy
    simp [hk] at hx
    subst hx
    obtain ⟨_, _, _, _, hB⟩ := hf k hk
    exact hB
  · intro u hu
    simp only [filCells, List.mem_flatMap] at hu
    obtain ⟨p, hp, hu⟩ := hu
    simp only [List.mem_cons, List.not_mem_nil, or_false] at hu
    rcases hu with rfl | rfl
    · rfl
    · have hm := List.of_mem_zip hp
      obtain ⟨k, hk, e⟩ := List.mem_map.1 hm.1
      obtain ⟨_, _, _, _, A', n', c', e', _⟩ := hf k (List.mem_range.1 hk)
      rw [← e, e']; rfl
theorem fils_of_own {w : World} {Q : Nat → Prop} {b n : Nat} {v : Value} {vs : List Value} {fs : List Fil} (hl : vs.length = fs.length) (hn : n = fs.length) (hown : w.ownsRow b 52 2 v n (filCells vs fs)) (hQ : ∀ k, v.ownBlock = some k → Q k)
    (hB : ∀ (k : Nat) (x : Value) (y : Fil), vs[k]? = some x → fs[k]? = some y → FilB w Q x y.2) : ∃ A c, v = .slice A n c ∧ n ≤ c ∧ c ≤ maxLen ∧ Fils w Q A fs := by
  subst hn
  obtain ⟨_, ⟨rfl, h0⟩ | ⟨g, cap, cur, rfl, _, hh, hnc, hcm, hsz, htake⟩⟩ := id hown
  · have : fs = [] := List.eq_nil_of_length_eq_zero h0
    subst this
    exact ⟨none, 0, rfl, Nat.le_refl _, by simp [maxLen], Fils.none_ _ _ _⟩
  · refine ⟨some ⟨g, 0, none⟩, cap, rfl, hnc, hcm, ?_⟩
    intro k hk
    obtain ⟨h1, h2⟩ := filCells_at vs fs hl k hk
    have hv : vs[k]? = some (vs[k]'(by omega)) := List.getElem?_eq_getElem (by omega)
    refine ⟨_, vs[k]'(by omega), rfl, hQ g rfl, ?_, ?_, hB k _ _ hv (List.getElem?_eq_getElem hk)⟩
    · rw [add_zero_off, hown.cellAt _ (by omega), h1]
    · rw [add_zero_off, hown.cellAt _ (by omega), h2, hv]
end Go.Proofs.Ytkdhfjnfdcopdaa
