/- What FilesPlay does, as lists; the relation of its loop. -/
import Derived.Test.YtkdhfjnfdcopdaaFilX
import Derived.Test.YtkdhfjnfdcopdaaFilR
set_option linter.unusedVariables false
namespace Go.Proofs.Ytkdhfjnfdcopdaa.Play
open Go.RowKit

/-- The files, and the error's number, behind what is done. -/
def actF (fs : List Fil) (a : ActT) : List Fil × Int :=
  if a.1 = 0 then putF fs a.2.2.1 a.2.2.2.flatten else if a.1 = 1 then addF fs a.2.2.1 a.2.2.2.flatten else if a.1 = 2 then cutF fs a.2.2.1 a.2.1 else (fs, 0)
theorem actF_ok {fs : List Fil} (h : OkF fs) (a : ActT) : OkF (actF fs a).1 := by
  unfold actF
  split
  · exact putF_ok h _ _
  · split
    · exact putF_ok h _ _
    · split
      · exact cutF_ok h _ _
      · exact h
/-- The table and the reference's files, both the files fs: in blocks apart. -/
def Both (W : World) (fs : List Fil) (vt vx : Value) (w : World) : Prop :=
  ∃ (F : Nat → Prop) (T : Nat) (A : Option Addr) (n c : Nat), vt = .pointer (some ⟨T, 0, none⟩) ∧ vx = .slice A n c ∧ n = fs.length ∧ n ≤ c ∧ c ≤ maxLen ∧ Tab w F T fs ∧ (∀ b, F b → W.heap.size ≤ b) ∧ Fils w (fun b => ¬ F b) A fs ∧ Below W.heap.size W w
def RelP (W : World) (m g : Nat) (i vt vx : Value) (w : World) : Prop :=
  ∃ (k : Nat) (fs : List Fil), k ≤ m ∧ m - k ≤ g ∧ i = .int .i64 (k : Nat) ∧ Hid (OkF fs) ∧ Hid (Both W fs vt vx w)
theorem RelP.mk {W : World} {m g : Nat} {i vt vx : Value} {w : World} (h : ∃ (k : Nat) (fs : List Fil), k ≤ m ∧ m - k ≤ g ∧ i = .int .i64 (k : Nat) ∧ Hid (OkF fs) ∧ Hid (Both W fs vt vx w)) : RelP W m g i vt vx w := h
/-- The table is another one (or was written to); the reference's files as they were. -/
theorem Both.below {W w w' : World} {fs : List Fil} {vt vx : Value} (h : Both W fs vt vx w) (hb : Below w.heap.size w w') : Both W fs vt vx w' :=
  let ⟨F, T, A, n, c, h1, h2, h3, h4, h5, h6, h7, h8, h9⟩ := h
  ⟨fun b => F b ∧ b < w.heap.size, T, A, n, c, h1, h2, h3, h4, h5, h6.kept (fun k hk _ => hb.block k hk) (fun k hk hf => ⟨hf, hk⟩), fun b hb => h7 b hb.1, h8.keep (fun _ _ hp => hb.cell hp) (fun k hq _ hf => hq hf.1), h9.trans (hb.mono h9.size)⟩
/-- Behind what was done: table and reference are one again, and so are the errors; the name still stands in its block. -/
def RelC (W : World) (b : Nat) (nm : ByteArray) (vt e vx f : Value) (w : World) : Prop :=
  ∃ (gs : List Fil) (cd : Int), Hid (OkF gs) ∧ Hid (Both W gs vt vx w) ∧ e = .int .i64 cd ∧ f = .int .i64 cd ∧ w.cell? ⟨b, 2, none⟩ = some (.string nm) ∧ b < w.heap.size
theorem RelC.mk {W : World} {b : Nat} {nm : ByteArray} {vt e vx f : Value} {w : World} (h : ∃ (gs : List Fil) (cd : Int), Hid (OkF gs) ∧ Hid (Both W gs vt vx w) ∧ e = .int .i64 cd ∧ f = .int .i64 cd ∧ w.cell? ⟨b, 2, none⟩ = some (.string nm) ∧ b < w.heap.size) : RelC W b nm vt e vx f w := h
/-- The same, the table's blocks all there. -/
theorem Both.known {W w : World} {fs : List Fil} {vt vx : Value} (h : Both W fs vt vx w) :
    ∃ (F : Nat → Prop) (T : Nat) (A : Option Addr) (n c : Nat), vt = .pointer (some ⟨T, 0, none⟩) ∧ vx = .slice A n c ∧ n = fs.length ∧ n ≤ c ∧ c ≤ maxLen ∧ Tab w F T fs ∧ (∀ b, F b → W.heap.size ≤ b ∧ b < w.heap.size) ∧ Fils w (fun b => ¬ F b) A fs ∧ Below W.heap.size W w :=
  let ⟨F, T, A, n, c, h1, h2, h3, h4, h5, h6, h7, h8, h9⟩ := h
  ⟨fun b => F b ∧ b < w.heap.size, T, A, n, c, h1, h2, h3, h4, h5, h6.kept (fun _ _ _ => rfl) (fun k hk hf => ⟨hf, hk⟩), fun b hb => ⟨h7 b hb.1, hb.2⟩, h8.keep (fun _ _ _ => rfl) (fun k hq _ hf => hq hf.1), h9⟩
/-- The table's blocks, and all that come. -/
def Grow (F : Nat → Prop) (s k : Nat) : Prop := F k ∨ s ≤ k
theorem Both.make {W w2 w3 : World} {F : Nat → Prop} {T n c : Nat} {A : Option Addr} {gs : List Fil} (hF : ∀ b, F b → W.heap.size ≤ b) (hb2 : Below W.heap.size W w2) (hn : n = gs.length) (hnc : n ≤ c) (hm : c ≤ maxLen) (hx : Fils w2 (fun b => ¬ F b) A gs)
    (hT : Tab w3 (Grow F w2.heap.size) T gs) (hfr : Fr (Grow F w2.heap.size) w2 w3) : Both W gs (.pointer (some ⟨T, 0, none⟩)) (.slice A n c) w3 :=
  have hG : ∀ b, Grow F w2.heap.size b → W.heap.size ≤ b := fun b hb => hb.elim (hF b) fun h => Nat.le_trans hb2.size h
  have hx2 : Fils w2 (fun b => ¬ Grow F w2.heap.size b) A gs := hx.mono fun k hq hk hg => hg.elim hq fun h => absurd h (Nat.not_le_of_lt hk)
  ⟨Grow F w2.heap.size, T, A, n, c, rfl, rfl, hn, hnc, hm, hT, hG, hx2.fr hfr, hb2.trans (hfr.below (fun b _ h => hG b h) hb2.size)⟩
theorem tab_grow {w w2 : World} {F : Nat → Prop} {T : Nat} {fs : List Fil} (h : Tab w F T fs) (hb : Below w.heap.size w w2) : Tab w2 (Grow F w2.heap.size) T fs := h.kept (fun k hk _ => hb.block k hk) (fun k _ hf => .inl hf)
/-- What the reference made lies apart from the table. -/
theorem fils_apart {w w1 w2 : World} {F : Nat → Prop} {A : Option Addr} {gs : List Fil} (hF : ∀ b, F b → b < w.heap.size) (hs : w.heap.size ≤ w1.heap.size) (h : Fils w2 (fun k => (fun b => ¬ F b) k ∨ w1.heap.size ≤ k) A gs) : Fils w2 (fun b => ¬ F b) A gs :=
  h.mono fun k hq _ hf => hq.elim (fun h => h hf) fun h => by have := hF k hf; omega
/-- Bytes of a block that came behind the table's. -/
theorem byt_apart {w w1 w2 : World} {F : Nat → Prop} {A : Option Addr} {l : List UInt8} {v : Value} {n : Nat} (hF : ∀ b, F b → b < w.heap.size) (hs : w.heap.size ≤ w1.heap.size) {w1' : World} (ho : w1'.ownsRow w1.heap.size 5 1 v n (bv l)) (hv : ∃ c, v = .slice A n c) (hb : Below w1'.heap.size w1' w2) :
    BytQ w2 (fun b => ¬ Grow F w2.heap.size b) A l := by
  obtain ⟨c, rfl⟩ := hv
  have hl : n = l.length := by have := ho.1; rw [bv_length] at this; omega
  rcases ho.2 with ⟨e, h0⟩ | ⟨g, cap, cur, e, hg, hh, hnc, hcm, hcs, ht⟩
  · injection e with e1
    subst e1
    have : l = [] := List.eq_nil_of_length_eq_zero (by omega)
    subst this
    exact fun k hk => absurd hk (by simp)
  · injection e with e1 _ e3
    subst e1
    subst e3
    intro k hk
    have hlt := (ho.lt g rfl).2
    refine ⟨_, rfl, fun hG => ?_, ?_⟩
    · rcases hG with h | h
      · have := hF g h; omega
      · have := hb.size
        have h : w2.heap.size ≤ g := h
        omega
    · rw [add_zero_off, hb.cell (p := ⟨g, k, none⟩) hlt, ho.cellAt k (by omega)]
      simp [bv, hk]
theorem bss_zz (w : World) (t : TypeId) : Bss ((w.alloc (.cells #[.int .u8 122, .int .u8 122] 5 (2, 3))).alloc (.cells #[.slice (some ⟨w.heap.size, 0, none⟩) 2 2] t)) (fun b => w.heap.size ≤ b ∧ b < w.heap.size + 2) (some ⟨w.heap.size + 1, 0, none⟩) [[122, 122]] := by
  have hb : Below (w.alloc (.cells #[.int .u8 122, .int .u8 122] 5 (2, 3))).heap.size (w.alloc (.cells #[.int .u8 122, .int .u8 122] 5 (2, 3))) ((w.alloc (.cells #[.int .u8 122, .int .u8 122] 5 (2, 3))).alloc (.cells #[.slice (some ⟨w.heap.size, 0, none⟩) 2 2] t)) := (Below.refl _ _).alloc (Nat.le_refl _) _
  intro k hk
  obtain rfl : k = 0 := by simpa using hk
  have hc := new_one (w.alloc (.cells #[.int .u8 122, .int .u8 122] 5 (2, 3))) (.slice (some ⟨w.heap.size, 0, none⟩) 2 2) t 0 _ rfl
  rw [sizeA] at hc
  have hbt : Byt (w.alloc (.cells #[.int .u8 122, .int .u8 122] 5 (2, 3))) (w.heap.size + 1) (some ⟨w.heap.size, 0, none⟩) [122, 122] := byt_new w [122, 122] 5 (2, 3)
  refine ⟨_, _, rfl, ⟨by show w.heap.size ≤ w.heap.size + 1; omega, by show w.heap.size + 1 < _; omega⟩, hc, _, 2, 2, rfl, rfl, Nat.le_refl _, by simp [maxLen], fun j hj => ?_⟩
  obtain ⟨ad, e, h1, h2⟩ := (hbt.below (hb.mono (by rw [sizeA]; omega))).at_ hj
  injection e with e
  subst e
  exact ⟨_, rfl, ⟨Nat.le_refl _, by show w.heap.size < _; omega⟩, h2⟩
/-- The old table goes on: the copy stays. -/
theorem Both.copied {W w0 w1 w1b w3 wr : World} {F : Nat → Prop} {T' n c : Nat} {A : Option Addr} {gs : List Fil} (hbr : Below W.heap.size W wr) (h0 : Below wr.heap.size wr w0) (h1 : Below w0.heap.size w0 w1) (h1b : Below w1.heap.size w1 w1b)
    (hFlt : ∀ b, F b → W.heap.size ≤ b ∧ b < wr.heap.size) (hn : n = gs.length) (hnc : n ≤ c) (hm : c ≤ maxLen) (hX : Fils wr (fun b => ¬ F b) A gs) (hT : Tab w1 (fun b => w0.heap.size ≤ b) T' gs)
    (hfr : Fr (Grow F w1b.heap.size) w1b w3) : Both W gs (.pointer (some ⟨T', 0, none⟩)) (.slice A n c) w3 := by
  have s0 := hbr.size
  have s1 := h0.size
  have s2 := h1.size
  have s3 := h1b.size
  have hG : ∀ b, b < w1.heap.size → ¬ F b → ¬ Grow F w1b.heap.size b := fun b hb hf hg => hg.elim hf fun h => by omega
  refine ⟨fun b => w0.heap.size ≤ b ∧ b < w1.heap.size, T', A, n, c, rfl, rfl, hn, hnc, hm, ?_, fun b hb => by omega, ?_, ?_⟩
  · refine hT.kept (fun k hk hf => ?_) (fun k hk hf => ⟨hf, hk⟩)
    have hk2 : ¬ F k := fun h => by have := (hFlt k h).2; omega
    rw [hfr.block k (by omega) (hG k hk hk2), h1b.block k hk]
  · refine hX.keep (fun p hp hlt => ?_) (fun k hq hlt hf => by omega)
    have := h0.cell hlt
    have a1 := h1.cell (p := p) (by omega)
    have a2 := h1b.cell (p := p) (by omega)
    rw [hfr.cell (p := p) (by omega) (hG _ (by omega) hp), a2, a1, this]
  · exact (((hbr.trans (h0.mono s0)).trans (h1.mono (by omega))).trans (h1b.mono (by omega))).trans (hfr.below (fun b hb hg => hg.elim (fun h => (hFlt b h).1) fun h => by omega) (by omega))
theorem act_cells (w w' : World) (z q : Int) (nm : ByteArray) (A : Option Addr) (n c : Nat) (t : TypeId) (hb : Below (w.heap.size + 1) (w.alloc (.cells #[.int .i64 z, .int .i64 q, .string nm, .slice A n c] t)) w') :
    w'.cell? ⟨w.heap.size, 0, none⟩ = some (.int .i64 z) ∧ w'.cell? ⟨w.heap.size, 1, none⟩ = some (.int .i64 q) ∧ w'.cell? ⟨w.heap.size, 2, none⟩ = some (.string nm) ∧ w'.cell? ⟨w.heap.size, 3, none⟩ = some (.slice A n c) := by
  have hn := new_cells w [.int .i64 z, .int .i64 q, .string nm, .slice A n c] t
  have h0 := hn 0 _ rfl
  have h1 := hn 1 _ rfl
  have h2 := hn 2 _ rfl
  have h3 := hn 3 _ rfl
  rw [add_zero_off] at h0 h1 h2 h3
  have hlt : ∀ o, (⟨w.heap.size, o, none⟩ : Addr).block < w.heap.size + 1 := fun _ => Nat.lt_succ_self _
  exact ⟨(hb.cell (hlt 0)).trans h0, (hb.cell (hlt 1)).trans h1, (hb.cell (hlt 2)).trans h2, (hb.cell (hlt 3)).trans h3⟩
theorem own_byt' {w : World} {B : Nat} {A : Option Addr} {n c : Nat} {l : List UInt8} (h : w.ownsRow B 5 1 (.slice A n c) n (bv l)) : Byt w w.heap.size A l := by
  obtain ⟨A', c', e, _, _, _, hb⟩ := own_byt h
  injection e with e
  rw [e]; exact hb
theorem own_cap {w : World} {B : Nat} {A : Option Addr} {n c : Nat} {l : List UInt8} (h : w.ownsRow B 5 1 (.slice A n c) n (bv l)) : n ≤ c ∧ c ≤ maxLen := by
  obtain ⟨A', c', e, _, h1, h2, _⟩ := own_byt h
  injection e with _ _ e
  rw [e]; exact ⟨h1, h2⟩
end Go.Proofs.Ytkdhfjnfdcopdaa.Play
