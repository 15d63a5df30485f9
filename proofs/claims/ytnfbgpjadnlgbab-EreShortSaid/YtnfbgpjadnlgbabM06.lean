/- A block whose cells are known, all of them; nothing here speaks of a program. Contracts: slices.Equal at nodes, tree.Same, the reference's Same. -/
import Derived.Test.YtnfbgpjadnlgbabM02
import Derived.Laws.Rows
import Derived.Laws.OwnMore
import Derived.Deep.MidRow
import Derived.Test.YtnfbgpjadnlgbabM05
set_option maxRecDepth 100000
namespace Go.Proofs.Ytnfbgpjadnlgbab
open Go.RowKit

/-- Block g is these cells, of that type, and may be written. -/
def Held (w : World) (g : Nat) (t : TypeId) (cs : Array Value) : Prop := w.heap[g]? = some (.cells cs t (0, 0))
section
variable {w w' : World} {g g' : Nat} {t t' : TypeId} {cs cs' : Array Value}
theorem Held.lt (h : Held w g t cs) : g < w.heap.size := (Array.getElem?_eq_some_iff.1 h).1
theorem Held.at_ (h : Held w g t cs) {i : Nat} {v : Value} (hv : cs[i]? = some v) : w.cell? ⟨g, i, none⟩ = some v := by rw [cell_of_row w g i cs t (0, 0) h]; exact hv
theorem Held.thawed (h : Held w g t cs) (i : Nat) : w.frozen? ⟨g, i, none⟩ = false := frozen_of_row w g i cs t h
theorem Held.drew (h : Held w g t cs) : Held w.drew g t cs := h
theorem Held.drewN (h : Held w g t cs) (n : Nat) : Held (w.drewN n) g t cs := h
theorem Held.alloc (h : Held w g t cs) (o : Obj) : Held (w.alloc o) g t cs := (Below.heap_alloc w o g h.lt).trans h
theorem Held.below {B : Nat} (h : Held w g t cs) (hb : Below B w w') (hg : g < B) : Held w' g t cs := (hb.block g hg).trans h
theorem Held.keep (h : Held w g t cs) (hb : Below w.heap.size w w') : Held w' g t cs := h.below hb h.lt
theorem Held.far {a : Addr} (h : Held w g t cs) (hne : g ≠ a.block) (v : Value) : Held (w.setCell a v) g t cs := (heap_setCell_other w a g v hne).trans h
theorem Held.put (h : Held w g t cs) (i : Nat) (v : Value) : Held (w.setCell ⟨g, i, none⟩ v) g t (cs.setIfInBounds i v) := heap_setCell_same w g i cs t v h
theorem Held.row (h : Held w g t cs) (cs' : Array Value) : Held (w.setRow g cs') g t cs' := setRow_heap w g _ _ _ _ h
theorem Held.row_far (h : Held w g t cs) (hne : g ≠ g') (cs' : Array Value) : Held (w.setRow g' cs') g t cs := (setRow_other w g' g cs' hne).trans h
theorem Held.grown {r : Option Nat} (h : Held w g t cs) (hg : w.grownBy w' r) (hne : some g ≠ r) : Held w' g t cs := (hg.block g h.lt hne).trans h
theorem Held.range (h : Held w g t cs) : w.rangeAt g 0 cs.toList := fun j v hj => by rw [Nat.zero_add]; exact h.at_ (by simpa using hj)
theorem held_new (w : World) (t : TypeId) (cs : Array Value) : Held (w.alloc (.cells cs t)) w.heap.size t cs := heap_alloc_new w _
theorem held_new2 (w : World) (o : Obj) (t : TypeId) (cs : Array Value) : Held ((w.alloc o).alloc (.cells cs t)) (w.heap.size + 1) t cs := heap_alloc2_new w o _
theorem Held.apart (h : Held w g t cs) (h' : Held w g' t' cs') (hne : t ≠ t') : g ≠ g' := by
  rintro rfl
  unfold Held at h h'
  rw [h] at h'
  injection h' with h'
  injection h' with _ h'
  exact hne h'
theorem Held.not_own {base : Nat} {e : TypeId} {size n : Nat} {v : Value} {xs : List Value} (h : Held w g t cs) (ho : w.ownsRow base e size v n xs) (hne : e ≠ t) : v.ownBlock ≠ some g := by
  intro hv
  rcases ho.2 with ⟨rfl, _⟩ | ⟨g', cap, cur, rfl, _, hh, _⟩
  · cases hv
  · have e1 : g' = g := by simpa [Value.ownBlock] using hv
    subst e1
    exact Held.apart (t := e) hh h hne rfl
theorem sizeA' (w : World) (o : Obj) : (w.alloc o).heap.size = w.heap.size + 1 := by simp
theorem below_row {B : Nat} {w0 : World} (hb : Below B w0 w) (hg : B ≤ g) (cs : Array Value) : Below B w0 (w.setRow g cs) :=
  ⟨hb.os, hb.tape, hb.output, by rw [size_setRow]; exact hb.size, fun k hk => by rw [setRow_other w g k cs (by omega)]; exact hb.block k hk⟩
end
/-- Two results, the first in a block. -/
theorem results_cell_two {P : Program} {fn : Func} {p q : Tmp} {ty : TypeId} (h : fn.results = #[.cell p ty, .tmp q]) (tmps : Array Value) (w : World) (g : Nat) (t : TypeId) (cs : Array Value) (fr : Nat × Nat) (d : TypeDesc)
    (hp : tmps.getD p undef = .pointer (some ⟨g, 0, none⟩)) {x : Value} (hx : tmps.getD q undef = x) (hg : w.heap[g]? = some (.cells cs t fr))
    (hu : P.underlying ty = some d) (hd : (match d with | .struct _ | .array _ _ => true | _ => false) = true) (hi : (P.info? ty).map (·.size) = some cs.size) :
    (results fn tmps).run P w = .ok (.tuple #[.agg cs, x]) w := by
  have hp' : tmps[p]?.getD undef = .pointer (some ⟨g, 0, none⟩) := by simpa using hp
  have hx' : tmps[q]?.getD undef = x := by simpa using hx
  simp [results, h, hp', hx', asAddr, run_loadVar_row w g t ty cs fr d hg hu hd hi]
end Go.Proofs.Ytnfbgpjadnlgbab

set_option maxRecDepth 100000
namespace Go.Proofs.Ytnfbgpjadnlgbab
open Go.RowKit

/-- The two have the same nodes, one by one. -/
noncomputable def sameNs (l m : List Nod) : Bool := @decide (l.map nodL = m.map nodL) (Classical.propDecidable _)
theorem sameNs_iff (l m : List Nod) : sameNs l m = true ↔ l.map nodL = m.map nodL := by unfold sameNs; exact @decide_eq_true_iff _ (Classical.propDecidable _)
theorem sameNs_self (l : List Nod) : sameNs l l = true := (sameNs_iff l l).2 rfl
theorem sameNs_not {l m : List Nod} (h : ¬ l.map nodL = m.map nodL) : sameNs l m = false := by
  cases hs : sameNs l m
  · rfl
  · exact absurd ((sameNs_iff l m).1 hs) h
theorem sameNs_len {l m : List Nod} (h : l.length ≠ m.length) : sameNs l m = false := sameNs_not fun e => h (by simpa using congrArg List.length e)
theorem sameNs_at {l m : List Nod} {k : Nat} (h1 : k < l.length) (h2 : k < m.length) (h : sameN (l[k]'h1) (m[k]'h2) = false) : sameNs l m = false := sameNs_not fun e => by
  have h3 : (l.map nodL)[k]? = (m.map nodL)[k]? := by rw [e]
  rw [List.getElem?_map, List.getElem?_map, List.getElem?_eq_getElem h1, List.getElem?_eq_getElem h2] at h3
  have h4 : nodL (l[k]'h1) = nodL (m[k]'h2) := by simpa using h3
  rw [(sameN_iff _ _).2 h4] at h
  cases h
theorem sameNs_all {l m : List Nod} (hl : l.length = m.length) (h : ∀ j (h1 : j < l.length) (h2 : j < m.length), sameN (l[j]'h1) (m[j]'h2) = true) : sameNs l m = true := by
  rw [sameNs_iff]
  apply List.ext_getElem?
  intro j
  rw [List.getElem?_map, List.getElem?_map]
  by_cases hj : j < l.length
  · rw [List.getElem?_eq_getElem hj, List.getElem?_eq_getElem (by omega)]
    simp only [Option.map_some, (sameN_iff _ _).1 (h j hj (by omega))]
  · rw [List.getElem?_eq_none (by omega), List.getElem?_eq_none (by omega)]

theorem quiet_load_mid {P : Program} {C : World → Prop} {op : Oper} {a : Act} {K : Act → Prop} (ty : TypeId) (x : Operand) (ho : op.op = .load ty x)
    (b o : Nat) (hx : a.eval x = .pointer (some ⟨b, o, none⟩)) (cs : List Value) (d : TypeDesc) (hc : ∀ w, C w → w.rangeAt b o cs)
    (hu : P.underlying ty = some d) (hd : d.isRow = true) (hi : (P.info? ty).map (·.size) = some cs.length)
    (h : K (a.put op.dst (.agg cs.toArray))) : op.quiet P a C K :=
  ⟨_, fun w hw => by
    unfold Oper.quietAt execOp
    simp only [ho, hx, Instr.loadAt, Instr.sureAddr, Sem.run_bind, Sem.run_pure, Result.andThen_ok, run_loadVar_mid w b o ty cs d (hc w hw) hu hd hi]
    exact ⟨rfl, rfl⟩, h⟩

theorem nod_info (n : Nod) : (Try.prog.info? 34).map (·.size) = some (nodL n).length := size_nod
/-- A node is read. -/
theorem quiet_load_nod {C : World → Prop} {op : Oper} {a : Act} {K : Act → Prop} (n : Nod) (b o : Nat) (x : Operand) (ho : op.op = .load 34 x) (hx : a.eval x = .pointer (some ⟨b, o, none⟩)) (hc : ∀ w, C w → w.rangeAt b o (nodL n))
    (h : K (a.put op.dst (nodV n))) : op.quiet Try.prog a C K :=
  quiet_load_mid 34 x ho b o hx (nodL n) _ hc under_nod rfl (nod_info n) h


theorem below_drewN' {w w' : World} {B : Nat} (h : Below B w w') (q : Nat) : Below B w (w'.drewN q) := below_drewN h q

set_option maxHeartbeats 1000000 in
theorem refSame_any (A1 A2 : Option Addr) (n1 c1 n2 c2 : Nat) (g1 g2 : Int) (l1 l2 : List Nod) (B : Nat) (w : World) (hn1 : n1 = l1.length) (hn2 : n2 = l2.length) (hc1 : n1 ≤ c1) (hc2 : n2 ≤ c2) (hm1 : c1 ≤ maxLen) (hB : B ≤ w.heap.size) (h1 : Nods w B A1 l1) (h2 : Nods w B A2 l2) :
    Calls Try.prog 7 #[.agg #[.slice A1 n1 c1, .int .i64 g1], .agg #[.slice A2 n2 c2, .int .i64 g2]] w fun e w' => e = .returned (.bool (decide (g1 = g2) && sameNs l1 l2)) ∧ Below w.heap.size w w' := by
  unfold maxLen at hm1
  have hb : ∀ o1 o2, Below w.heap.size w ((w.alloc o1).alloc o2) := fun o1 o2 => ((Below.refl _ _).alloc (Nat.le_refl _) _).alloc (by simp) _
  by_cases hg : g1 = g2
  · subst hg
    rw [show (decide (g1 = g1) && sameNs l1 l2) = sameNs l1 l2 by simp]
    by_cases hlen : n1 = n2
    · subst hlen
      have hH1 := Lib.hid hn1
      have hH2 := Lib.hid hn2
      clear hn1 hn2
      have hb' := Lib.hid hb
      have hk1 := Lib.hid (fun o1 o2 => (h1.below ((hb o1 o2).mono hB)).more (show B ≤ w.heap.size from hB))
      have hk2 := Lib.hid (fun o1 o2 => (h2.below ((hb o1 o2).mono hB)).more (show B ≤ w.heap.size from hB))
      clear hb h1 h2
      go_enter Try.func7, Try.ntmps7
      go_wp2
      have hbW := hb'.out (.cells #[.slice A1 n1 c1, .int .i64 g1] 26) (.cells #[.slice A2 n1 c2, .int .i64 g1] 26)
      have hN1 := hk1.out (.cells #[.slice A1 n1 c1, .int .i64 g1] 26) (.cells #[.slice A2 n1 c2, .int .i64 g1] 26)
      have hN2 := hk2.out (.cells #[.slice A1 n1 c1, .int .i64 g1] 26) (.cells #[.slice A2 n1 c2, .int .i64 g1] 26)
      have hX1 := ((held_new w 26 #[.slice A1 n1 c1, .int .i64 g1]).alloc (.cells #[.slice A2 n1 c2, .int .i64 g1] 26)).at_ (i := 0) rfl
      have hX2 := (held_new2 w (.cells #[.slice A1 n1 c1, .int .i64 g1] 26) 26 #[.slice A2 n1 c2, .int .i64 g1]).at_ (i := 0) rfl
      generalize (w.alloc (.cells #[.slice A1 n1 c1, .int .i64 g1] 26)).alloc (.cells #[.slice A2 n1 c2, .int .i64 g1] 26) = w2 at *
      clear hk1 hk2 hb'
      replace hbW := Lib.hid hbW
      go_loopw [5] (fun i wr => ∃ k q : Nat, k ≤ n1 ∧ i = .int .i64 ((k : Nat) : Int) ∧ Hid (∀ j (h1 : j < l1.length) (h2 : j < l2.length), j < k → sameN (l1[j]'h1) (l2[j]'h2) = true) ∧ wr = w2.drewN q) (fun i _ => n1 - (intOf i).toNat)
      case atStart => exact ⟨0, 0, by omega, rfl, Lib.hid fun j _ _ h => absurd h (by omega), rfl⟩
      case round =>
        obtain ⟨k, q, hk, rfl, hr, rfl⟩ := hrel
        by_cases hlt : k < n1
        · have hk1 : k < l1.length := by have := hH1.out; omega
          have hk2 : k < l2.length := by have := hH2.out; omega
          obtain ⟨ad1, b1, o1, hA1, hp1, -, hd1⟩ := hN1.at_ hk1
          obtain ⟨ad2, b2, o2, hA2, hp2, -, hd2⟩ := hN2.at_ hk2
          subst hA1
          subst hA2
          have hE := nod_neq
          have hG := nod_guard
          replace hd1 := Lib.hid hd1
          replace hd2 := Lib.hid hd2
          go_wp2
          refine wp_region_quiet_lit (by kernel_rfl) (by kernel_rfl) ?_
          repeat (go_big_quiet_step (fail))
          go_big_quiet_want
          refine quiet_load_nod (l1[k]'hk1) b1 o1 _ rfl rfl (fun w' hw' => ?_) ?_
          · obtain ⟨m, rfl⟩ := hw'
            exact hd1.out
          go_big_quiet_on
          simp only [Act.put, List.setIfInBounds_toArray, List.set_cons_zero, List.set_cons_succ]
          repeat (go_big_quiet_step (fail))
          go_big_quiet_want
          refine quiet_load_nod (l2[k]'hk2) b2 o2 _ rfl rfl (fun w' hw' => ?_) ?_
          · obtain ⟨m, rfl⟩ := hw'
            exact hd2.out
          go_big_quiet_on
          simp only [Act.put, List.setIfInBounds_toArray, List.set_cons_zero, List.set_cons_succ]
          repeat (go_big_quiet_step (fail))
          refine wpQuiet_nil ?_
          intro _ hw'
          obtain ⟨nq, hw''⟩ := hw'
          subst hw''
          have hAt := Lib.hid (fun h => sameNs_at (l := l1) (m := l2) hk1 hk2 h)
          have hNx := Lib.hid (fun (he : sameN (l1[k]'hk1) (l2[k]'hk2) = true) j (h1 : j < l1.length) (h2 : j < l2.length) (hj : j < k + 1) => show sameN (l1[j]'h1) (l2[j]'h2) = true by
            rcases Nat.lt_or_ge j k with h | h
            · exact hr.out j h1 h2 h
            · obtain rfl : j = k := by omega
              exact he)
          generalize sameN (l1[k]'hk1) (l2[k]'hk2) = s at *
          cases s
          · go_wp2
            go_ret
            exact ⟨ret_bool (by first | exact (hAt.out rfl).symm | exact (hAt.out trivial).symm), below_drewN hbW.out _⟩
          · go_wp2
            go_roundw
            case rel => exact ⟨k + 1, _, by omega, by go_num, Lib.hid (by first | exact hNx.out rfl | exact hNx.out trivial), by first | rfl | exact World.drewN_drewN _ _ _⟩
            case measure => simp [intOf]; omega
        · go_wp2
          go_ret
          exact ⟨ret_bool (sameNs_all (by rw [← hH1.out, ← hH2.out]) fun j h1 h2 => hr.out j h1 h2 (by have := hH1.out; omega)).symm, below_drewN hbW.out _⟩
    · rw [sameNs_len (by omega)]
      have hq3 : ((n1 : Int) != (n2 : Int)) = true := by rw [bne_iff_ne]; omega
      have hb' := Lib.hid hb
      clear hb hn1 hn2 h1 h2
      go_enter Try.func7, Try.ntmps7
      go_wp2
      go_ret
      exact ⟨rfl, hb'.out _ _⟩
  · have hq : (g1 == g2) = false := by rw [beq_eq_false_iff_ne]; exact hg
    have hq2 : (g1 != g2) = true := by rw [bne_iff_ne]; exact hg
    rw [show (decide (g1 = g2) && sameNs l1 l2) = false by simp [hg]]
    have hb' := Lib.hid hb
    clear hb hg hn1 hn2 h1 h2
    go_enter Try.func7, Try.ntmps7
    go_wp2
    go_ret
    exact ⟨rfl, hb'.out _ _⟩
end Go.Proofs.Ytnfbgpjadnlgbab
