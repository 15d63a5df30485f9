/- Contract of the reference of package files: Put. -/
import Derived.Test.YtkdhfjnfdcopdaaFilN
namespace Go.Proofs.Ytkdhfjnfdcopdaa
open Go.RowKit

def PutPost (w w' : World) (Q : Nat → Prop) (r : List Fil × Int) (e : Ending) : Prop :=
  ∃ A n c, e = .returned (.tuple #[.slice A n c, .int .i64 r.2]) ∧ n = r.1.length ∧ n ≤ c ∧ c ≤ maxLen ∧ Fils w' (fun k => Q k ∨ w.heap.size ≤ k) A r.1
theorem putPost_same {w : World} {Q : Nat → Prop} {A : Option Addr} {n c : Nat} {fs : List Fil} {e0 : Int} (hn : n = fs.length) (hnc : n ≤ c) (hm : c ≤ maxLen) (h : Fils w Q A fs) : PutPost w w Q (fs, e0) (.returned (.tuple #[.slice A n c, .int .i64 e0])) :=
  ⟨A, n, c, rfl, hn, hnc, hm, h.mono fun _ hq _ => .inl hq⟩
theorem own_slice {w : World} {base : Nat} {e : TypeId} {size n : Nat} {v : Value} {xs : List Value} (h : w.ownsRow base e size v n xs) : ∃ A c, v = .slice A n c := by
  rcases h.2 with ⟨e, h0⟩ | ⟨g, cap, cur, e, _⟩
  · exact ⟨none, 0, by rw [e, h0]⟩
  · exact ⟨_, _, e⟩
theorem OwnSome.mk {w : World} {base : Nat} {e : TypeId} {size n : Nat} {v : Value} {xs : List Value} (h : w.ownsRow base e size v n xs) (hn : 0 < n) : ∃ g c, v = .slice (some ⟨g, 0, none⟩) n c ∧ n ≤ c ∧ c ≤ maxLen ∧ g < w.heap.size := by
  obtain ⟨_, ⟨rfl, h0⟩ | ⟨g, cap, cur, rfl, _, hh, hnc, hcm, _⟩⟩ := h
  · omega
  · exact ⟨g, cap, rfl, hnc, hcm, (Array.getElem?_eq_some_iff.1 hh).1⟩
theorem set_get2 {vs : List Value} {fs : List Fil} {k : Nat} {nm : ByteArray} {l : List UInt8} {u : Value} (hl : vs.length = fs.length) (hk : k < fs.length) (he : (fs[k]'hk).1 = nm) : ((filCells vs fs).set (k * 2) (.string nm)).set (k * 2 + 1) u = filCells (vs.set k u) (fs.set k (nm, l)) := by
  have h1 := filCells_set vs fs hl k hk u l
  rw [he] at h1
  rw [h1]
  congr 1
  obtain ⟨h2, -⟩ := filCells_at vs fs hl k hk
  rw [he] at h2
  obtain ⟨hlt, e⟩ := List.getElem?_eq_some_iff.1 h2
  refine List.ext_getElem (by simp) fun i a b => ?_
  rw [List.getElem_set]
  split
  · next e2 => subst e2; exact e.symm
  · rfl

theorem putPost_of {w w' : World} {Q : Nat → Prop} {A : Option Addr} {n c : Nat} {fs : List Fil} {vs : List Value} (hl : vs.length = fs.length) (hn : n = fs.length) (hown : w'.ownsRow w.heap.size 52 2 (.slice A n c) n (filCells vs fs))
    (hB : ∀ (k : Nat) (x : Value) (y : Fil), vs[k]? = some x → fs[k]? = some y → FilB w' (fun k => Q k ∨ w.heap.size ≤ k) x y.2) : PutPost w w' Q (fs, 0) (.returned (.tuple #[.slice A n c, .int .i64 0])) := by
  obtain ⟨A', c', e, h1, h2, h3⟩ := fils_of_own (Q := fun k => Q k ∨ w.heap.size ≤ k) hl hn hown (fun k e => .inr (hown.lt k e).1) hB
  injection e with e1 _ e3
  subst e1
  subst e3
  exact ⟨A, n, c, rfl, hn, h1, h2, h3⟩
theorem snoc_each {P : Value → Fil → Prop} {vs : List Value} {fs : List Fil} {u : Value} {z : Fil} (hl : vs.length = fs.length) (h : ∀ (k : Nat) (x : Value) (y : Fil), vs[k]? = some x → fs[k]? = some y → P x y) (hu : P u z) : ∀ (k : Nat) (x : Value) (y : Fil), (vs ++ [u])[k]? = some x → (fs ++ [z])[k]? = some y → P x y := by
  intro k x y hx hy
  rcases Nat.lt_or_ge k fs.length with hk | hk
  · rw [List.getElem?_append_left (by omega)] at hx hy
    exact h k x y hx hy
  · obtain rfl : k = fs.length := by have := (List.getElem?_eq_some_iff.1 hy).1; simp at this; omega
    rw [List.getElem?_append_right (by omega)] at hx hy
    simp only [hl, Nat.sub_self, List.getElem?_cons_zero, Option.some.injEq] at hx hy
    subst hx
    subst hy
    exact hu
theorem set_each {P : Value → Fil → Prop} {vs : List Value} {fs : List Fil} {u : Value} {z : Fil} {j : Nat} (hl : vs.length = fs.length) (hj : j < fs.length) (h : ∀ (k : Nat) (x : Value) (y : Fil), vs[k]? = some x → fs[k]? = some y → P x y) (hu : P u z) : ∀ (k : Nat) (x : Value) (y : Fil), (vs.set j u)[k]? = some x → (fs.set j z)[k]? = some y → P x y := by
  intro k x y hx hy
  by_cases hk : k = j
  · subst hk
    rw [List.getElem?_set_self (by omega)] at hx hy
    injection hx with hx
    injection hy with hy
    subst hx
    subst hy
    exact hu
  · rw [List.getElem?_set_ne (by omega)] at hx hy
    exact h k x y hx hy

set_option maxHeartbeats 4000000 in
theorem refPut_any (A : Option Addr) (n c : Nat) (fs : List Fil) (nm : ByteArray) (A1 : Option Addr) (n1 c1 : Nat) (l : List UInt8) (Q Q1 : Nat → Prop) (w : World) (hn : n = fs.length) (hnc : n ≤ c) (hm : c ≤ maxLen) (h : Fils w Q A fs) (h16 : fs.length ≤ 16) (hs : nm.size ≤ maxLen)
    (hn1 : n1 = l.length) (hB : BytQ w Q1 A1 l) :
    Calls Try.prog 12 #[.slice A n c, .string nm, .slice A1 n1 c1] w fun e w' => PutPost w w' Q (putF fs nm l) e ∧ Below w.heap.size w w' := by
  have hI := Lib.hid (fun w' => refIsName_any nm w' hs)
  have hP := Lib.hid (at_any A n c fs nm Q w hn hnc hm h)
  have hsame := Lib.hid (fun e0 => putPost_same (e0 := e0) hn hnc hm h)
  have hpu : putF fs nm l = if isNm nm = false then (fs, 4) else if decide (l.length ≤ 65536) = false then (fs, 8) else if posN fs nm = none ∧ 16 ≤ fs.length then (fs, 7) else (setF fs nm l, 0) := by
    unfold putF refuse
    by_cases a1 : isNm nm = false
    · simp [a1]
    · by_cases a2 : decide (l.length ≤ 65536) = false
      · simp [a1, a2]
      · by_cases a3 : posN fs nm = none ∧ 16 ≤ fs.length
        · simp [a1, a2, a3]
        · simp only [if_neg a1, if_neg a2, if_neg a3]; rfl
  unfold maxLen at hm
  by_cases a1 : isNm nm = false
  · rw [hpu, if_pos a1]
    rw [a1] at hI
    clear hpu a1 hn hn1 h hB
    go_enter Try.func12, Try.ntmps12
    go_wp2_with (first
      | (go_at_call 27; refine (hI.out _).mono ?_; rintro e w1 ⟨rfl, rfl⟩))
    go_ret2
    exact ⟨hsame.out 4, Below.refl _ _⟩
  · rw [if_neg a1] at hpu
    replace a1 : isNm nm = true := by simpa using a1
    rw [a1] at hI
    by_cases a2 : 65536 < l.length
    · rw [hpu, if_pos (decide_eq_false (by omega))]
      have a3 : (65536 : Int) < (n1 : Int) := by omega
      clear hpu a1 hn hn1 h hB
      go_enter Try.func12, Try.ntmps12
      go_wp2_with (first
        | (go_at_call 27; refine (hI.out _).mono ?_; rintro e w1 ⟨rfl, rfl⟩))
      go_ret2
      exact ⟨hsame.out 8, Below.refl _ _⟩
    · have a3 : ¬ (65536 : Int) < (n1 : Int) := by omega
      rw [if_neg (by rw [decide_eq_true (show l.length ≤ 65536 by omega)]; simp)] at hpu
      by_cases a4 : posN fs nm = none ∧ 16 ≤ fs.length
      · rw [hpu, if_pos a4]
        rw [posI_neg a4.1] at hP
        obtain rfl : n = 16 := by omega
        clear hpu a1 a4 hn hn1 h hB
        go_enter Try.func12, Try.ntmps12
        go_wp2_with (first
          | (go_at_call 27; refine (hI.out _).mono ?_; rintro e w1 ⟨rfl, rfl⟩)
          | (go_at_call 20; refine (hP.out).mono ?_; rintro e w1 ⟨rfl, rfl⟩))
        go_ret2
        exact ⟨hsame.out 7, Below.refl _ _⟩
      · rw [hpu, if_neg a4]
        obtain ⟨vs, hvl, hsrc, heach, hone⟩ := h.cells
        have hb1 : Below w.heap.size w (w.alloc (.cells #[] 52)) := (Below.refl _ w).alloc (Nat.le_refl _) _
        have hown : (w.alloc (.cells #[] 52)).ownsRow w.heap.size 52 2 (.slice (some ⟨w.heap.size, 0, none⟩) 0 0) 0 [] := World.ownsRow_made w #[] 0 (Nat.le_refl _) (by simp [maxLen]) rfl
        have hsrc1 : Src (w.alloc (.cells #[] 52)) A (filCells vs fs) := fun j u hj => by
          obtain ⟨ad, hA, hc⟩ := hsrc j u hj
          refine ⟨ad, hA, (hb1.cell ?_).trans hc⟩
          exact World.block_lt_of_cell? w _ hc
        have hlen2 : (filCells vs fs).length = n * 2 := by rw [filCells_length vs fs hvl, hn]
        have hC := fun (w4 : World) (hb : Below w.heap.size w w4) => copy_any A1 n1 c1 l (fun _ => True) w4 hn1 (by omega) (BytQ.keep hB (fun p _ hp => hb.cell hp) (fun _ _ _ => trivial))
        obtain ⟨i0, hi, hz0, hz1, hz2⟩ := info_parts file_info2
        have hI1 := Lib.hid hz1
        have hI2 := Lib.hid hz2
        replace hC := Lib.hid hC
        have hn' := Lib.hid hn
        have hvl' := Lib.hid hvl
        have heach' := Lib.hid heach
        have hn16 : n ≤ 16 := by omega
        clear hpu a1 a2 hn1 hB hz1 hz2 hsrc heach h hsame
        cases hp : posN fs nm with
        | none =>
          have hlt16 : n < 16 := Nat.lt_of_not_le fun hl => a4 ⟨hp, by omega⟩
          rw [posI_neg hp] at hP
          have hset : setF fs nm l = fs ++ [(nm, l)] := by simp [setF, hp]
          rw [hset]
          clear hset hp a4 hn hvl
          go_enter Try.func12, Try.ntmps12
          go_wp2_with (first
            | (go_at_call 27; refine (hI.out _).mono ?_; rintro e w1 ⟨rfl, rfl⟩)
            | (go_at_call 20; refine (hP.out).mono ?_; rintro e w1 ⟨rfl, rfl⟩)
            | (go_at_call 30; refine (hC.out _ hb4).mono ?_; rintro e w5 ⟨v5, rfl, ho5, hb5⟩
               obtain ⟨A5, c5, rfl, -, -, -, -⟩ := own_byt ho5
               have hown5 := fun o1 o2 => ((own_below hown4 hb5).alloc o1).alloc o2
               replace hown5 := Lib.hid hown5)
            | (at_builtin; refine wpList_append_at rfl _ _ 22 rfl w.heap.size 52 i0 _ 2 40 Try.underlying22 hi hz0 hI1.out hI2.out rfl (by decide) (.slice (some ⟨w.heap.size, 0, none⟩) 0 0) 0 [] rfl hown A n c (filCells vs fs) rfl hlen2 hsrc1 hone (by unfold maxLen; omega) (by omega) (by rw [sizeB]; omega) ?_; intro v4 w4 hown4 hg4 hbk4
               rw [Nat.zero_add, List.nil_append] at hown4
               have hb4 : Below w.heap.size w w4 := hb1.grown hg4 (by rw [sizeB]; omega) (fun k e => by injection e with e; have e : w.heap.size = k := e; omega)
               obtain ⟨A4, c4, rfl⟩ := own_slice hown4)
            | (at_builtin; refine wpList_append_at rfl _ _ 22 rfl w.heap.size 52 i0 _ 2 40 Try.underlying22 hi hz0 hI1.out hI2.out rfl (by decide) (.slice A4 n c4) n (filCells vs fs) rfl (hown5.out _ _) (some ⟨w5.heap.size + 1, 0, none⟩) 1 1 [.string nm, .slice A5 l.length c5] rfl rfl (by have := src_new (w5.alloc (.cells #[.string nm, .slice A5 l.length c5] 52)) [.string nm, .slice A5 l.length c5] 52; rwa [sizeB] at this) (by simp [Value.oneCell']) (by unfold maxLen; omega) (by omega) (by rw [sizeB, sizeB]; have := hb4.size; have := hb5.size; omega) ?_; intro v6 w6 hown6 hg6 hb6
               obtain ⟨A6, c6, rfl⟩ := own_slice hown6))
          go_ret2
          have hb5w : Below w.heap.size w w5 := hb4.trans (hb5.mono hb4.size)
          have hb6w : Below w.heap.size w w6 := ((hb5w.alloc hb5w.size (.cells #[.string nm, .slice A5 l.length c5] 52)).alloc (by rw [sizeB]; have := hb5w.size; omega) (.cells #[.string nm, .slice A5 l.length c5] 52)).grown hg6 (by rw [sizeB, sizeB]; have := hb5w.size; omega) (fun k e => ((hown5.out (.cells #[.string nm, .slice A5 l.length c5] 52) (.cells #[.string nm, .slice A5 l.length c5] 52)).lt k e).1)
          have hu5 : OwnF w5 (fun k => w.heap.size ≤ k) (.slice A5 l.length c5) l := ⟨own_base ho5 (Nat.zero_le _), fun b e => Nat.le_trans hb4.size (ho5.lt b e).1⟩
          have hu6 := ((hu5.grown (World.grownBy_alloc w5 (.cells #[.string nm, .slice A5 l.length c5] 52) none) (fun _ _ e => by cases e)).grown (World.grownBy_alloc _ (.cells #[.string nm, .slice A5 l.length c5] 52) none) (fun _ _ e => by cases e))
          have hu7 := hu6.grown hg6 (fun b e => own_ne hu6.1 (hown5.out _ _) ty_ne1 e)
          refine ⟨putPost_of (vs := vs ++ [.slice A5 l.length c5]) (by simp [hvl'.out]) (by simp [hn'.out]) (by rw [filCells_snoc vs fs hvl'.out]; exact hown6) ?_, hb6w⟩
          exact snoc_each (P := fun x y => FilB w6 (fun k => Q k ∨ w.heap.size ≤ k) x y.2) hvl'.out (fun k x y hx hy => (heach'.out k x y hx hy).keep (fun p _ hp => hb6w.cell hp) (fun _ hq _ => .inl hq)) (hu7.filB.keep (fun _ _ _ => rfl) (fun _ hq _ => .inr hq))
        | some k =>
          obtain ⟨hk, hnmk⟩ := posN_lt hp
          rw [posI_some hp] at hP
          have hset : setF fs nm l = fs.set k (nm, l) := by simp [setF, hp]
          rw [hset]
          have hkn : k < n := by omega
          have hset2 := fun u => set_get2 (l := l) (u := u) hvl hk hnmk
          replace hset2 := Lib.hid hset2
          have hcell0 := (filCells_at vs fs hvl k hk).1
          have hcell1 := (filCells_at vs fs hvl k hk).2
          rw [List.getElem?_eq_getElem (show k < vs.length by omega)] at hcell1
          rw [hnmk] at hcell0
          replace hcell0 := Lib.hid hcell0
          replace hcell1 := Lib.hid hcell1
          generalize (vs[k]'(by omega)) = vk at hcell1
          have hkf := Lib.hid hk
          clear hset hp a4 hn hvl hnmk hk
          go_enter Try.func12, Try.ntmps12
          go_wp2_with (first
            | (go_at_call 27; refine (hI.out _).mono ?_; rintro e w1 ⟨rfl, rfl⟩)
            | (go_at_call 20; refine (hP.out).mono ?_; rintro e w1 ⟨rfl, rfl⟩)
            | (go_at_call 30; refine (hC.out _ hb4).mono ?_; rintro e w5 ⟨v5, rfl, ho5, hb5⟩
               obtain ⟨A5, c5, rfl, -, -, -, -⟩ := own_byt ho5
               have hown5 := own_below hown4 hb5
               have q0 := (hown5.cellAt (k * 2) (by omega)).trans hcell0.out
               have q1 := (hown5.cellAt (k * 2 + 1) (by omega)).trans hcell1.out
               have q2 := hown5.frozenAt (k * 2)
               have q3 := hown5.frozenAt (k * 2 + 1)
               have q4 : g4 < w5.heap.size := Nat.lt_of_lt_of_le hg4lt hb5.size
               have q5 : w5.heap.size ≠ g4 := by omega
               replace hown5 := Lib.hid hown5)
            | (at_builtin; refine wpList_append_at rfl _ _ 22 rfl w.heap.size 52 i0 _ 2 40 Try.underlying22 hi hz0 hI1.out hI2.out rfl (by decide) (.slice (some ⟨w.heap.size, 0, none⟩) 0 0) 0 [] rfl hown A n c (filCells vs fs) rfl hlen2 hsrc1 hone (by unfold maxLen; omega) (by omega) (by rw [sizeB]; omega) ?_; intro v4 w4 hown4 hg4 hbk4
               rw [Nat.zero_add, List.nil_append] at hown4
               have hb4 : Below w.heap.size w w4 := hb1.grown hg4 (by rw [sizeB]; omega) (fun k e => by injection e with e; have e : w.heap.size = k := e; omega)
               obtain ⟨g4, c4, rfl, hc4a, hc4b, hg4lt⟩ := OwnSome.mk hown4 (by omega)
               unfold maxLen at hc4b))
          go_ret2
          have hs1 := hown5.out.stored (k * 2) (.string nm)
          have hs2 := hs1.1.stored (k * 2 + 1) (.slice A5 l.length c5)
          have hge := (hown5.out.lt g4 rfl).1
          have hb5w : Below w.heap.size w w5 := hb4.trans (hb5.mono hb4.size)
          have hb6w := (hb5w.setCell (p := ⟨g4, k * 2, none⟩) hge (.string nm)).setCell (p := ⟨g4, k * 2 + 1, none⟩) hge (.slice A5 l.length c5)
          have hb7w := hb6w.alloc hb6w.size (.cells #[.string nm, .slice A5 l.length c5] 52)
          have hu5 : OwnF w5 (fun k => w.heap.size ≤ k) (.slice A5 l.length c5) l := ⟨own_base ho5 (Nat.zero_le _), fun b e => Nat.le_trans hb4.size (ho5.lt b e).1⟩
          have hu6 := hu5.grown hs1.2 (fun b e => own_ne hu5.1 hown5.out ty_ne1 e)
          have hu7 := hu6.grown hs2.2 (fun b e => own_ne hu6.1 hs1.1 ty_ne1 e)
          have hu8 := hu7.grown (World.grownBy_alloc _ (.cells #[.string nm, .slice A5 l.length c5] 52) none) (fun _ _ e => by cases e)
          have hfo := hs2.1.alloc (.cells #[.string nm, .slice A5 l.length c5] 52)
          rw [hset2.out] at hfo
          refine ⟨putPost_of (vs := vs.set k (.slice A5 l.length c5)) (by simp [hvl'.out]) (by simp [hn'.out]) hfo ?_, hb7w⟩
          exact set_each (P := fun x y => FilB _ (fun k => Q k ∨ w.heap.size ≤ k) x y.2) hvl'.out hkf.out (fun k x y hx hy => (heach'.out k x y hx hy).keep (fun p _ hp => hb7w.cell hp) (fun _ hq _ => .inl hq)) (hu8.filB.keep (fun _ _ _ => rfl) (fun _ hq _ => .inr hq))
end Go.Proofs.Ytkdhfjnfdcopdaa
