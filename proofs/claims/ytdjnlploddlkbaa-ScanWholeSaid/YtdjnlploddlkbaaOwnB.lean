/- Bytes in memory: a slice of them (BytV), a row of them that a call owns (OwnB), what is appended to it (Apd). -/
import Derived.Test.YtdjnlploddlkbaaProg
import Derived.Test.YtdjnlploddlkbaaApp2
import Derived.Test.YtdjnlploddlkbaaHeld
import Derived.Laws.IdiomStrings
set_option linter.unusedVariables false
set_option linter.unusedSimpArgs false
set_option maxRecDepth 100000
namespace Go.Proofs.Ytdjnlploddlkbaa
open Go.RowKit

/-- A value that is a slice of these bytes, in blocks below B. -/
def BytV (w : World) (B : Nat) (v : Value) (l : List UInt8) : Prop := ∃ (A : Option Addr) (n c : Nat), v = .slice A n c ∧ n = l.length ∧ n ≤ c ∧ c ≤ maxLen ∧ Byt w B A l
theorem BytV.below {w w' : World} {B : Nat} {v : Value} {l : List UInt8} (h : BytV w B v l) (hb : Below B w w') : BytV w' B v l := by
  obtain ⟨A, n, c, h1, h2, h3, h4, h5⟩ := h; exact ⟨A, n, c, h1, h2, h3, h4, h5.below hb⟩
theorem BytV.more {w : World} {B B' : Nat} {v : Value} {l : List UInt8} (h : BytV w B v l) (hB : B ≤ B') : BytV w B' v l := by
  obtain ⟨A, n, c, h1, h2, h3, h4, h5⟩ := h; exact ⟨A, n, c, h1, h2, h3, h4, h5.more hB⟩
theorem BytV.nil (w : World) (B : Nat) : BytV w B (.slice none 0 0) [] := ⟨none, 0, 0, rfl, rfl, Nat.le_refl _, by simp [maxLen], Byt.none_ _ _ _⟩
theorem sw_u8 : (Try.prog.info? 5).map (fun i => (i.zero, i.size, i.bytes)) = some (some (.int .u8 0), 1, 1) := by kernel_rfl
theorem sw_parts {α β γ : Type} {o : Option TypeInfo} {f : TypeInfo → α} {g : TypeInfo → β} {k : TypeInfo → γ} {a : α} {b : β} {c : γ} (h : o.map (fun i => (f i, g i, k i)) = some (a, b, c)) : ∃ i, o = some i ∧ f i = a ∧ g i = b ∧ k i = c := by
  obtain ⟨i, hi, hh⟩ := Option.map_eq_some_iff.1 h
  simp only [Prod.mk.injEq] at hh
  exact ⟨i, hi, hh.1, hh.2.1, hh.2.2⟩
/-- Bytes that a call owns. -/
def OwnB (w : World) (base : Nat) (v : Value) (l : List UInt8) : Prop := w.ownsRow base 5 1 v l.length (bv l)
theorem OwnB.nil (w : World) (base : Nat) : OwnB w base (.slice none 0 0) [] := World.ownsRow_nil _ _ _ _
theorem OwnB.keep {w w' : World} {base : Nat} {v : Value} {l : List UInt8} (h : OwnB w base v l) (hb : Below w.heap.size w w') : OwnB w' base v l := own_below h hb
theorem OwnB.byt {w : World} {base : Nat} {v : Value} {l : List UInt8} (h : OwnB w base v l) : BytV w w.heap.size v l := by
  obtain ⟨A, cap, rfl, h1, h2, h3, h4⟩ := own_byt h
  exact ⟨A, l.length, cap, rfl, rfl, h2, h3, h4⟩
/-- What an append leaves as it was. -/
structure Apd (base : Nat) (v : Value) (w w' : World) : Prop where
  grown : w.grownBy w' v.ownBlock
  below : ∀ w0, Below base w0 w → Below base w0 w'
  held : ∀ g ty cs, 5 ≠ ty → Held w g ty cs → Held w' g ty cs
theorem run_app {w : World} {base B : Nat} {v u : Value} {l news : List UInt8} (ty : TypeId) (hown : OwnB w base v l) (hv : BytV w B u news) (hl : l.length + news.length ≤ 1000000000) (hbase : base ≤ w.heap.size) :
    ∃ v' w', (Builtin.append_ #[24, 24] ty #[v, u]).run Try.prog w = .ok v' w' ∧ OwnB w' base v' (l ++ news) ∧ Apd base v w w' := by
  obtain ⟨A, n, c, rfl, rfl, hnc, hcm, hb⟩ := hv
  obtain ⟨i0, hi0, hq0, hq1, hq2⟩ := sw_parts sw_u8
  obtain ⟨v', w', hr, h1, h2⟩ := run_append_vals (P := Try.prog) (w := w) base 24 ty 5 i0 (.int .u8 0) 1 Try.underlying24 hi0 hq0 hq1 hq2 rfl v l.length (bv l) hown B A news.length c (bv news) (bv_length news).symm hb.vals (bv_one news) (by unfold maxLen; omega) (by omega) hbase
  refine ⟨v', w', hr, ?_, ⟨h2, fun w0 h0 => below_append h0 hown hbase h2, fun g ty cs hne hg => hg.grown h2 (fun e => hg.not_own hown hne e.symm)⟩⟩
  unfold OwnB
  rw [List.length_append, bv_append]
  exact h1
theorem wp_app {o : Oper} {a : Act} {w : World} {K : Act → World → Prop} {Q : Exit → Act → World → Prop} (s x : Operand)
    (ho : o.op = .call { callee := .builtin .append, args := #[s, x], argTypes := #[24, 24] })
    {base B : Nat} {v u : Value} {l news : List UInt8} (hs : a.eval s = v) (hown : OwnB w base v l) (hx : a.eval x = u) (hv : BytV w B u news) (hl : l.length + news.length ≤ 1000000000) (hbase : base ≤ w.heap.size)
    (h : ∀ v' w', OwnB w' base v' (l ++ news) → Apd base v w w' → K (a.put o.dst v') w') : o.wp Try.prog a w K Q := by
  obtain ⟨v', w', hrun, h2, h3⟩ := run_app o.type hown hv hl hbase
  unfold Oper.wp execOp
  simp only [ho, resolve, invoke, builtin, Sem.run_bind, Sem.run_pure, Result.andThen_ok, List.map_toArray, List.map_cons, List.map_nil, hs, hx, hrun]
  exact h v' w' h2 h3
theorem wpList_app {ops : Array Oper} {rest : List Oper} {o : Oper} {a : Act} {w : World} {Q : Exit → Act → World → Prop} (hg : o.guard = none) (s x : Operand)
    (ho : o.op = .call { callee := .builtin .append, args := #[s, x], argTypes := #[24, 24] })
    {base B : Nat} {v u : Value} {l news : List UInt8} (hs : a.eval s = v) (hown : OwnB w base v l) (hx : a.eval x = u) (hv : BytV w B u news) (hl : l.length + news.length ≤ 1000000000) (hbase : base ≤ w.heap.size)
    (h : ∀ v' w', OwnB w' base v' (l ++ news) → Apd base v w w' → wpList Try.prog ops Q rest (a.put o.dst v') w') : wpList Try.prog ops Q (o :: rest) a w := by
  refine wpList_plain hg fun K hK => ?_
  exact wp_app s x ho hs hown hx hv hl hbase fun v' w' h1 h2 => hK _ _ (h v' w' h1 h2)
/-- Bytes that a call made behind a row stay, when that row is appended to. -/
theorem Apd.other {w w0 w' : World} {base b0 : Nat} {v u : Value} {l l0 : List UInt8} (h : Apd base v w w') (hv : OwnB w0 b0 v l0) (hu : OwnB w w0.heap.size u l) : OwnB w' w0.heap.size u l := by
  refine World.ownsRow.kept hu h.grown ?_
  cases hub : u.ownBlock with
  | none => exact .inl rfl
  | some k =>
    refine .inr fun e => ?_
    have h1 := (World.ownsRow.lt hu k hub).1
    have h2 := (World.ownsRow.lt hv k e.symm).2
    omega
theorem sw_base {w : World} {b b' : Nat} {e : TypeId} {size n : Nat} {v : Value} {xs : List Value} (h : w.ownsRow b e size v n xs) (hb : b' ≤ b) : w.ownsRow b' e size v n xs :=
  ⟨h.1, h.2.imp id fun ⟨g, cap, cur, h1, h2, h3⟩ => ⟨g, cap, cur, h1, Nat.le_trans hb h2, h3⟩⟩
theorem sw_far {w : World} {B G : Nat} {e t : TypeId} {s n : Nat} {v : Value} {xs : List Value} {cs : Array Value} (h : Held w G t cs) (hne : e ≠ t) (ho : w.ownsRow B e s v n xs) (i : Nat) (u : Value) : (w.setCell ⟨G, i, none⟩ u).ownsRow B e s v n xs := by
  have hb : Below 0 w (w.setCell ⟨G, i, none⟩ u) := (Below.refl 0 w).setCell (Nat.zero_le _) u
  refine World.ownsRow.kept (row := some G) ho ⟨hb.os, hb.tape, hb.output, hb.size, fun k _ hk => by rw [heap_setCell_other w ⟨G, i, none⟩ k u (fun e => hk (by rw [e]))]⟩ ?_
  cases hv : v.ownBlock with
  | none => exact .inl rfl
  | some k => exact .inr fun e => h.not_own ho hne (by rw [hv, e])
theorem OwnB.slice {w : World} {base : Nat} {v : Value} {l : List UInt8} (h : OwnB w base v l) : ∃ A n c, v = .slice A n c := by
  rcases h.2 with ⟨rfl, _⟩ | ⟨g, cap, _, rfl, _⟩
  · exact ⟨_, _, _, rfl⟩
  · exact ⟨_, _, _, rfl⟩
theorem bytv_new (w : World) (l : List UInt8) (n : Nat) (hn : n = l.length) (hm : n ≤ 1000) : BytV (w.alloc (.cells (bv l).toArray 5)) (w.heap.size + 1) (.slice (some ⟨w.heap.size, 0, none⟩) n n) l :=
  ⟨_, _, _, rfl, hn, Nat.le_refl _, by unfold maxLen; omega, byt_new w l 5 (0, 0)⟩
theorem sw_conv {w : World} {B : Nat} {A : Option Addr} {l : List UInt8} {n c : Nat} (h : Byt w B A l) (hn : n = l.length) (h0 : l ≠ []) :
    (convert 24 9 (.slice A n c)).run Try.prog w = .ok (.string ⟨l.toArray⟩) w := by
  subst hn
  have hl : 0 < l.length := List.length_pos_iff.2 h0
  obtain ⟨ad, rfl, _, _⟩ := h.at_ hl
  exact run_convert_bytes_back (P := Try.prog) w 24 9 5 ad c l Try.underlying24 Try.underlying5 Try.underlying9 (fun j hj => by
    obtain ⟨ad', he, _, hc⟩ := h.at_ hj
    obtain rfl := Option.some.inj he
    exact hc)
end Go.Proofs.Ytdjnlploddlkbaa
