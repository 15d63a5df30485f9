/- Contract: the texts of all parts, one behind the other (package swap's joined, handed the function of Expand); Expand. -/
import Derived.Test.YtkfdehkembcaoaaSwpC
import Derived.Shelf.Abstract
set_option linter.unusedVariables false
set_option linter.unusedSimpArgs false
set_option maxRecDepth 100000
namespace Go.Proofs.Ytkfdehkembcaoaa
open Go.RowKit

theorem sw_u8 : (Try.prog.info? 5).map (fun i => (i.zero, i.size, i.bytes)) = some (some (.int .u8 0), 1, 1) := by kernel_rfl
theorem sw_parts {α β γ : Type} {o : Option TypeInfo} {f : TypeInfo → α} {g : TypeInfo → β} {k : TypeInfo → γ} {a : α} {b : β} {c : γ} (h : o.map (fun i => (f i, g i, k i)) = some (a, b, c)) : ∃ i, o = some i ∧ f i = a ∧ g i = b ∧ k i = c := by
  obtain ⟨i, hi, hh⟩ := Option.map_eq_some_iff.1 h
  simp only [Prod.mk.injEq] at hh
  exact ⟨i, hi, hh.1, hh.2.1, hh.2.2⟩
/-- Bytes that a call owns. -/
def OwnB (w : World) (base : Nat) (v : Value) (l : List UInt8) : Prop := w.ownsRow base 5 1 v l.length (bv l)
theorem OwnB.nil (w : World) (base : Nat) : OwnB w base (.slice none 0 0) [] := World.ownsRow_nil _ _ _ _
theorem OwnB.keep {w w' : World} {base : Nat} {v : Value} {l : List UInt8} (h : OwnB w base v l) (hb : Below w.heap.size w w') : OwnB w' base v l := own_below h hb
theorem OwnB.byt {w : World} {base : Nat} {v : Value} {l : List UInt8} (h : OwnB w base v l) : BytV w w.heap.size v l := by
  obtain ⟨A, cap, rfl, h1, h2, h3, h4⟩ := own_byt h
  exact ⟨A, l.length, cap, rfl, rfl, h2, h3, h4⟩
/-- What an append leaves as it was. -/
structure Apd (base : Nat) (v : Value) (w w' : World) : Prop where
  grown : w.grownBy w' v.ownBlock
  below : ∀ w0, Below base w0 w → Below base w0 w'
  held : ∀ g ty cs, 5 ≠ ty → Held w g ty cs → Held w' g ty cs
theorem run_app {w : World} {base B : Nat} {v u : Value} {l news : List UInt8} (ty : TypeId) (hown : OwnB w base v l) (hv : BytV w B u news) (hl : l.length + news.length ≤ 1000000000) (hbase : base ≤ w.heap.size) :
    ∃ v' w', (Builtin.append_ #[26, 26] ty #[v, u]).run Try.prog w = .ok v' w' ∧ OwnB w' base v' (l ++ news) ∧ Apd base v w w' := by
  obtain ⟨A, n, c, rfl, rfl, hnc, hcm, hb⟩ := hv
  obtain ⟨i0, hi0, hq0, hq1, hq2⟩ := sw_parts sw_u8
  obtain ⟨v', w', hr, h1, h2⟩ := run_append_vals (P := Try.prog) (w := w) base 26 ty 5 i0 (.int .u8 0) 1 Try.underlying26 hi0 hq0 hq1 hq2 rfl v l.length (bv l) hown B A news.length c (bv news) (bv_length news).symm hb.vals (bv_one news) (by unfold maxLen; omega) (by omega) hbase
  refine ⟨v', w', hr, ?_, ⟨h2, fun w0 h0 => below_append h0 hown hbase h2, fun g ty cs hne hg => hg.grown h2 (fun e => hg.not_own hown hne e.symm)⟩⟩
  unfold OwnB
  rw [List.length_append, bv_append]
  exact h1
theorem wp_app {o : Oper} {a : Act} {w : World} {K : Act → World → Prop} {Q : Exit → Act → World → Prop} (s x : Operand)
    (ho : o.op = .call { callee := .builtin .append, args := #[s, x], argTypes := #[26, 26] })
    {base B : Nat} {v u : Value} {l news : List UInt8} (hs : a.eval s = v) (hown : OwnB w base v l) (hx : a.eval x = u) (hv : BytV w B u news) (hl : l.length + news.length ≤ 1000000000) (hbase : base ≤ w.heap.size)
    (h : ∀ v' w', OwnB w' base v' (l ++ news) → Apd base v w w' → K (a.put o.dst v') w') : o.wp Try.prog a w K Q := by
  obtain ⟨v', w', hrun, h2, h3⟩ := run_app o.type hown hv hl hbase
  unfold Oper.wp execOp
  simp only [ho, resolve, invoke, builtin, Sem.run_bind, Sem.run_pure, Result.andThen_ok, List.map_toArray, List.map_cons, List.map_nil, hs, hx, hrun]
  exact h v' w' h2 h3
theorem wpList_app {ops : Array Oper} {rest : List Oper} {o : Oper} {a : Act} {w : World} {Q : Exit → Act → World → Prop} (hg : o.guard = none) (s x : Operand)
    (ho : o.op = .call { callee := .builtin .append, args := #[s, x], argTypes := #[26, 26] })
    {base B : Nat} {v u : Value} {l news : List UInt8} (hs : a.eval s = v) (hown : OwnB w base v l) (hx : a.eval x = u) (hv : BytV w B u news) (hl : l.length + news.length ≤ 1000000000) (hbase : base ≤ w.heap.size)
    (h : ∀ v' w', OwnB w' base v' (l ++ news) → Apd base v w w' → wpList Try.prog ops Q rest (a.put o.dst v') w') : wpList Try.prog ops Q (o :: rest) a w := by
  refine wpList_plain hg fun K hK => ?_
  exact wp_app s x ho hs hown hx hv hl hbase fun v' w' h1 h2 => hK _ _ (h v' w' h1 h2)
/-- Bytes that a call made behind a row stay, when that row is appended to. -/
theorem Apd.other {w w0 w' : World} {base b0 : Nat} {v u : Value} {l l0 : List UInt8} (h : Apd base v w w') (hv : OwnB w0 b0 v l0) (hu : OwnB w w0.heap.size u l) : OwnB w' w0.heap.size u l := by
  refine World.ownsRow.kept hu h.grown ?_
  cases hub : u.ownBlock with
  | none => exact .inl rfl
  | some k =>
    refine .inr fun e => ?_
    have h1 := (World.ownsRow.lt hu k hub).1
    have h2 := (World.ownsRow.lt hv k e.symm).2
    omega
section
variable {w : World} {T H B : Nat} {At : Option Addr} {nt ct : Nat} {t : List UInt8} {s : Spn} {A : Option Addr} {n c : Nat} {l : List Prt}
set_option maxHeartbeats 4000000 in
theorem joinedE_any (h : ExIn w T H B At nt ct t s) (hn : n = l.length) (hnc : n ≤ c) (hm : c ≤ maxLen) (hl : Prts w B A l) (hM : (expL t s l).length ≤ 1000000) :
    Calls Try.prog 21 #[.slice A n c, .func (.func 26) #[] #[.pointer (some ⟨T, 0, none⟩), .pointer (some ⟨H, 0, none⟩)]] w fun e w' => (∃ v, e = .returned v ∧ OwnB w' w.heap.size v (expL t s l)) ∧ Below w.heap.size w w' := by
  unfold maxLen at hm
  have eg : ∀ args w, (callFunc 26 args).run Try.prog w = .ok (.enter 26 args) w := enters_of Try.func26 (by kernel_rfl) rfl
  have hnh := Lib.hid hn
  have hh := Lib.hid h
  have hlh := Lib.hid hl
  have hMh := Lib.hid hM
  clear h hl hn hM
  go_enter Try.func21, Try.ntmps21
  go_wp2
  go_loopw [5, 10] (fun v i wr => ∃ (v0 : Value) (k : Nat), v0 = v ∧ k ≤ n ∧ i = .int .i64 (k : Nat) ∧ OwnB wr w.heap.size v (expL t s (l.take k)) ∧ Below w.heap.size w wr) (fun _ i _ => n - (intOf i).toNat)
  case atStart => exact ⟨_, 0, rfl, Nat.zero_le _, rfl, OwnB.nil _ _, Below.refl _ _⟩
  case round =>
    obtain ⟨v, k, rfl, hk, rfl, hown, hbr⟩ := hrel
    have hownh := Lib.hid hown
    have hbrh := Lib.hid hbr
    clear hown hbr
    by_cases hlt : k < n
    · have hkx : k < l.length := by rw [← hnh.out]; exact hlt
      obtain ⟨ad, vb, rfl, had, c0, c1, c2, hvb⟩ := (hlh.out.below (hbrh.out.mono hh.out.base)) k hkx
      have hT := Lib.hid (expL_take t s l hkx)
      have hlen := Lib.hid (show (expL t s (l.take k)).length ≤ 1000000 ∧ (expL t s (l.take (k + 1))).length ≤ 1000000 from ⟨Nat.le_trans (expL_take_len t s l k) hMh.out, Nat.le_trans (expL_take_len t s l (k + 1)) hMh.out⟩)
      have hE := Lib.hid (fun (w' : World) (hb : Below w.heap.size w w') (hv : BytV w' B vb (l[k]'hkx).b) => expPart_any (k := (l[k]'hkx).kind) (g := (l[k]'hkx).grp) (b := (l[k]'hkx).b) (hh.out.below hb) hv)
      have hvbh := Lib.hid hvb
      obtain ⟨Av, nv, cv, rfl, -⟩ := hvb
      have hkI : (k : Int) < (n : Int) := by omega
      have hw2 : IntKind.i64.wrap ((k : Int) + 1) = (k : Int) + 1 := IntWalk.i64_in _ (by omega)
      have hBh := Lib.hid hh.out.base
      have hbr1 := Lib.hid (fun o => show Below w.heap.size w (wr.alloc o) from hbrh.out.alloc hbrh.out.size o)
      generalize hp : l[k]'hkx = p at *
      obtain ⟨pk, pg, pb⟩ := p
      replace hp := Lib.hid hp
      go_wp2_with (first
        | (go_at_fn 26; refine (hE.out _ (hbr1.out _) (hvbh.out.below ((((Below.refl wr.heap.size wr).alloc (Nat.le_refl _) _)).mono (Nat.le_trans hBh.out hbrh.out.size)))).mono ?_; rintro e w2 ⟨⟨u, rfl, hu⟩, hb2⟩; have hb3 := Lib.hid ((hbr1.out _).trans (hb2.mono (hbr1.out _).size)); have hown2 := Lib.hid (hownh.out.keep ((((Below.refl wr.heap.size wr).alloc (Nat.le_refl _) _)).trans (hb2.mono (by simp)))); have huh := Lib.hid hu; clear hb2 hu)
        | (at_builtin; refine wpList_app rfl (.tmp 14) (.tmp 17) rfl rfl hown2.out rfl huh.out (by have := hlen.out; have h2 := hT.out; rw [h2, List.length_append] at this; omega) hb3.out.size ?_; intro v' w' h1 h2))
      go_roundw
      case rel => exact ⟨_, k + 1, rfl, by omega, rfl, by rw [hT.out]; exact h1, h2.below _ hb3.out⟩
      case measure => simp [intOf]; omega
    · obtain rfl : k = n := by omega
      go_wp2
      go_ret
      refine ⟨⟨_, rfl, ?_⟩, hbrh.out⟩
      have := hownh.out
      rwa [show l.take k = l by rw [hnh.out, List.take_length]] at this
end
end Go.Proofs.Ytkfdehkembcaoaa
