/- The relation, node by node, and the rows of points that hold just what it says; what the parts cost. Nothing here speaks of a program. -/
import Derived.Test.YtbgalmnhhjiagaaM20
set_option linter.unusedVariables false
set_option maxRecDepth 100000
namespace Go.Proofs.Ytbgalmnhhjiagaa
open Go.RowKit

section
variable {ns : List Nod} {t : List UInt8} {n : Int} {p q : Pt}
theorem rel_empty (h : (ndA ns n).kind = 0) : Rel ns t (.node n) p q ↔ q = p := by
  constructor
  · intro k; cases k <;> first | rfl | (exfalso; omega)
  · rintro rfl; exact .empty n _ h
theorem rel_set (h : (ndA ns n).kind = 1) : Rel ns t (.node n) p q ↔ ∃ c, t[p.i]? = some c ∧ (ndA ns n).set c.toNat = true ∧ q = ⟨p.i + 1, p.sp⟩ := by
  constructor
  · intro k; cases k <;> first | exact ⟨_, by assumption, by assumption, rfl⟩ | (exfalso; omega)
  · rintro ⟨c, h1, h2, rfl⟩; exact .set n p c h h1 h2
theorem rel_cat (h : (ndA ns n).kind = 2) : Rel ns t (.node n) p q ↔ ∃ m, Rel ns t (.node (ndA ns n).a) p m ∧ Rel ns t (.node (ndA ns n).b) m q := by
  constructor
  · intro k; cases k <;> first | exact ⟨_, by assumption, by assumption⟩ | (exfalso; omega)
  · rintro ⟨m, h1, h2⟩; exact .cat n h h1 h2
theorem rel_alt (h : (ndA ns n).kind = 3) : Rel ns t (.node n) p q ↔ Rel ns t (.node (ndA ns n).a) p q ∨ Rel ns t (.node (ndA ns n).b) p q := by
  constructor
  · intro k
    cases k with
    | altA _ _ k => exact .inl k
    | altB _ _ k => exact .inr k
    | _ => exfalso; omega
  · rintro (h1 | h1)
    · exact .altA n h h1
    · exact .altB n h h1
theorem rel_rep (h : (ndA ns n).kind = 4) : Rel ns t (.node n) p q ↔ Rel ns t (.more n 0) p q := by
  constructor
  · intro k; cases k <;> first | assumption | (exfalso; omega)
  · exact .rep n h
theorem rel_grp (h : (ndA ns n).kind = 5) : Rel ns t (.node n) p q ↔ ∃ m, Rel ns t (.node (ndA ns n).a) p m ∧ q = ⟨m.i, setSp m.sp (ndA ns n).grp.toNat ((p.i : Int), (m.i : Int))⟩ := by
  constructor
  · intro k
    cases k with
    | group _ _ k => exact ⟨_, k, rfl⟩
    | _ => exfalso; omega
  · rintro ⟨m, h1, rfl⟩; exact .group n h h1
theorem rel_back (h : (ndA ns n).kind = 6) : Rel ns t (.node n) p q ↔ ∃ j, backAt t (p.sp (ndA ns n).grp.toNat) p.i = some j ∧ q = ⟨j, p.sp⟩ := by
  constructor
  · intro k
    cases k with
    | back _ _ j _ hb => exact ⟨j, hb, rfl⟩
    | _ => exfalso; omega
  · rintro ⟨j, h1, rfl⟩; exact .back n p j h h1
theorem rel_bol (h : (ndA ns n).kind = 7) : Rel ns t (.node n) p q ↔ p.i = 0 ∧ q = p := by
  constructor
  · intro k
    cases k with
    | bol _ _ _ hp => exact ⟨hp, rfl⟩
    | _ => exfalso; omega
  · rintro ⟨h1, rfl⟩; exact .bol n _ h h1
theorem rel_eol (h : (ndA ns n).kind = 8) : Rel ns t (.node n) p q ↔ p.i = t.length ∧ q = p := by
  constructor
  · intro k
    cases k with
    | eol _ _ _ hp => exact ⟨hp, rfl⟩
    | _ => exfalso; omega
  · rintro ⟨h1, rfl⟩; exact .eol n _ h h1
/-- What the parts of a node cost. -/
theorem stk_cat (hk : (ndA ns n).kind = 2) {c : Nat} {hs : List Pt} (h : Stk ns t [([.node n], p)] c hs) : (∃ c' ks, c' < c ∧ Stk ns t [([.node (ndA ns n).a], p)] c' ks) ∧ ∀ m, Rel ns t (.node (ndA ns n).a) p m → ∃ c' ks, c' < c ∧ Stk ns t [([.node (ndA ns n).b], m)] c' ks := by
  cases h with
  | @step _ _ _ _ c _ k =>
    have e : (nexts ns t (.node n) p).map (ahead []) ++ [] = [([.node (ndA ns n).a, .node (ndA ns n).b], p)] := by simp [nexts, hk, ahead]
    rw [e] at k
    obtain ⟨c1, c2, h1, rfl, k1, k2⟩ := k.front [([.node (ndA ns n).a], p)] [.node (ndA ns n).b] rfl
    refine ⟨⟨c1, h1, by omega, k1⟩, fun m hm => ?_⟩
    have hw : Way ns t [.node (ndA ns n).a] p m := way_iff.2 hm
    have hq : m ∈ h1 := by
      -- a way of the part is one of its hits, whatever kinds its nodes have
      have go : ∀ {s : List Wy} {c : Nat} {hs : List Pt}, Stk ns t s c hs → ∀ w ∈ s, Way ns t w.1 w.2 m → (∀ tk p ah m, Stp ns t tk p ah m → (ah, m) ∈ nexts ns t tk p) → m ∈ hs := fun {s c hs} h => by
        induction h with
        | nil => intro w hw; cases hw
        | hit p _ ih =>
          intro w hw h1 h2
          rcases List.mem_cons.1 hw with rfl | hw
          · cases h1; exact List.mem_cons_self
          · exact List.mem_cons_of_mem _ (ih w hw h1 h2)
        | step tk r p _ ih =>
          intro w hw h1 h2
          rcases List.mem_cons.1 hw with rfl | hw
          · cases h1 with
            | step h3 h4 => exact ih _ (List.mem_append_left _ (List.mem_map.2 ⟨_, h2 _ _ _ _ h3, rfl⟩)) h4 h2
          · exact ih w (List.mem_append_right _ hw) h1 h2
      refine go k1 _ List.mem_cons_self hw fun tk p ah m h => ?_
      by_cases hK : KindOK ns tk
      · exact (nexts_mem hK).2 h
      · exfalso
        apply hK
        cases h <;> simp_all [KindOK]
    obtain ⟨c', ks, h2, h3, _⟩ := k2.has (List.mem_map.2 ⟨m, hq, rfl⟩)
    exact ⟨c', ks, by omega, h3⟩
theorem stk_alt (hk : (ndA ns n).kind = 3) {c : Nat} {hs : List Pt} (h : Stk ns t [([.node n], p)] c hs) : (∃ c' ks, c' < c ∧ Stk ns t [([.node (ndA ns n).a], p)] c' ks) ∧ ∃ c' ks, c' < c ∧ Stk ns t [([.node (ndA ns n).b], p)] c' ks := by
  cases h with
  | @step _ _ _ _ c _ k =>
    have e : (nexts ns t (.node n) p).map (ahead []) ++ [] = [([.node (ndA ns n).a], p), ([.node (ndA ns n).b], p)] := by simp [nexts, hk, ahead]
    rw [e] at k
    obtain ⟨c1, k1, h1, h2, _⟩ := k.has (w := ([.node (ndA ns n).a], p)) (by simp)
    obtain ⟨c2, k2, h3, h4, _⟩ := k.has (w := ([.node (ndA ns n).b], p)) (by simp)
    exact ⟨⟨c1, k1, by omega, h2⟩, c2, k2, by omega, h4⟩
theorem stk_grp (hk : (ndA ns n).kind = 5) {c : Nat} {hs : List Pt} (h : Stk ns t [([.node n], p)] c hs) : ∃ c' ks, c' < c ∧ Stk ns t [([.node (ndA ns n).a], p)] c' ks := by
  cases h with
  | @step _ _ _ _ c _ k =>
    have e : (nexts ns t (.node n) p).map (ahead []) ++ [] = [([.node (ndA ns n).a, .gend (ndA ns n).grp p.i], p)] := by simp [nexts, hk, ahead]
    rw [e] at k
    obtain ⟨c1, c2, h1, rfl, k1, k2⟩ := k.front [([.node (ndA ns n).a], p)] [.gend (ndA ns n).grp p.i] rfl
    exact ⟨c1, h1, by omega, k1⟩
/-- A row of just what a node comes to is no longer than it costs. -/
def Rch (ns : List Nod) (t : List UInt8) (n : Int) (p : Pt) (l : List Pt) : Prop := l.Nodup ∧ ∀ q, q ∈ l ↔ Rel ns t (.node n) p q
theorem Rch.len {g : Int} (hr : Rt ns g) {l : List Pt} (hl : Rch ns t n p l) {c : Nat} {hs : List Pt} (h : Stk ns t [([.node n], p)] c hs) : l.length ≤ c := by
  have h1 := nodup_few hl.1 fun x hx => (stk_rel hr h x).2 ((hl.2 x).1 hx)
  have h2 := h.few
  simp [dones] at h2
  omega
theorem some_len {g : Int} (hr : Rt ns g) {l : List Pt} (hn : l.Nodup) (hl : ∀ q ∈ l, Rel ns t (.node n) p q) {c : Nat} {hs : List Pt} (h : Stk ns t [([.node n], p)] c hs) : l.length ≤ c := by
  have h1 := nodup_few hn fun x hx => (stk_rel hr h x).2 (hl x hx)
  have h2 := h.few
  simp [dones] at h2
  omega
/-- The k-th time of a repetition gives these on its own. -/
def Emit (ns : List Nod) (t : List UInt8) (n : Int) (k : Nat) (m q : Pt) : Prop := ((ndA ns n).lo ≤ (k : Int) ∧ q = m) ∨ (((ndA ns n).hi = -1 ∨ (k : Int) < (ndA ns n).hi) ∧ Rel ns t (.node (ndA ns n).a) m q ∧ q.i = m.i ∧ (k : Int) < (ndA ns n).lo)
theorem more_emit : Rel ns t (.more n 0) p q ↔ ∃ k m, It ns t n p k m ∧ Emit ns t n k m q := more_iff
theorem It.back {j : Nat} (h : It ns t n p j q) : ∀ i, i ≤ j → ∃ m, It ns t n p i m := by
  induction h with
  | zero => intro i hi; exact ⟨p, by rw [show i = 0 by omega]; exact .zero⟩
  | @succ k m q h hk h1 he ih =>
    intro i hi
    rcases Nat.lt_or_ge i (k + 1) with h2 | h2
    · exact ih i (by omega)
    · exact ⟨q, by rw [show i = k + 1 by omega]; exact .succ h hk h1 he⟩
/-- Ahead of the k-th time: the points it begins from, and those given as yet. -/
structure Tim (ns : List Nod) (t : List UInt8) (n : Int) (p : Pt) (k : Nat) (now out : List Pt) : Prop where
  nn : now.Nodup
  nm : ∀ q, q ∈ now ↔ It ns t n p k q
  on : out.Nodup
  om : ∀ q, q ∈ out ↔ ∃ j m, j < k ∧ It ns t n p j m ∧ Emit ns t n j m q
theorem Tim.zero : Tim ns t n p 0 [p] [] where
  nn := by simp
  nm q := by
    constructor
    · intro h
      simp only [List.mem_singleton] at h
      subst h
      exact .zero
    · intro h; cases h; simp
  on := by simp
  om q := by
    constructor
    · intro h; cases h
    · rintro ⟨j, m, h, _⟩; omega
/-- No more begins anywhere: all is given. -/
theorem Tim.dry {k : Nat} {out : List Pt} (h : Tim ns t n p k [] out) : ∀ q, q ∈ out ↔ Rel ns t (.more n 0) p q := fun q => by
  rw [h.om, more_emit]
  constructor
  · rintro ⟨j, m, _, h1, h2⟩; exact ⟨j, m, h1, h2⟩
  · rintro ⟨j, m, h1, h2⟩
    refine ⟨j, m, ?_, h1, h2⟩
    rcases Nat.lt_or_ge j k with h3 | h3
    · exact h3
    · obtain ⟨m', h4⟩ := h1.back k h3
      exact absurd ((h.nm m').2 h4) (by simp)
/-- It was done as often as it may be. -/
theorem Tim.top {k : Nat} {now out out' : List Pt} (h : Tim ns t n p k now out) (hh : 0 ≤ (ndA ns n).hi) (hk : (ndA ns n).hi ≤ (k : Int)) (ho : ∀ q, q ∈ out' ↔ q ∈ out ∨ ((ndA ns n).lo ≤ (k : Int) ∧ q ∈ now)) : ∀ q, q ∈ out' ↔ Rel ns t (.more n 0) p q := fun q => by
  rw [ho, h.om, h.nm, more_emit]
  constructor
  · rintro (⟨j, m, _, h1, h2⟩ | ⟨h1, h2⟩)
    · exact ⟨j, m, h1, h2⟩
    · exact ⟨k, q, h2, .inl ⟨h1, rfl⟩⟩
  · rintro ⟨j, m, h1, h2⟩
    rcases Nat.lt_or_ge j k with h3 | h3
    · exact .inl ⟨j, m, h3, h1, h2⟩
    · have h4 := h1.few
      have : j = k := by omega
      subst this
      rcases h2 with ⟨h5, rfl⟩ | ⟨h5, _⟩
      · exact .inr ⟨h5, h1⟩
      · omega
/-- The next time: what is reached from each of the points, and what took nothing. -/
theorem Tim.next {k : Nat} {now out out' next : List Pt} (h : Tim ns t n p k now out) (hk : (ndA ns n).hi = -1 ∨ (k : Int) < (ndA ns n).hi) (hn : next.Nodup) (ho' : out'.Nodup)
    (hm : ∀ q, q ∈ next ↔ ∃ m ∈ now, Rel ns t (.node (ndA ns n).a) m q ∧ q.i ≠ m.i)
    (ho : ∀ q, q ∈ out' ↔ (q ∈ out ∨ ((ndA ns n).lo ≤ (k : Int) ∧ q ∈ now)) ∨ ((k : Int) < (ndA ns n).lo ∧ ∃ m ∈ now, Rel ns t (.node (ndA ns n).a) m q ∧ q.i = m.i)) : Tim ns t n p (k + 1) next out' where
  nn := hn
  nm q := by
    rw [hm]
    constructor
    · rintro ⟨m, h1, h2, h3⟩; exact .succ ((h.nm m).1 h1) hk h2 h3
    · intro h1
      cases h1 with
      | succ h1 _ h2 h3 => exact ⟨_, (h.nm _).2 h1, h2, h3⟩
  on := ho'
  om q := by
    rw [ho, h.om, h.nm]
    constructor
    · rintro ((⟨j, m, h1, h2, h3⟩ | ⟨h1, h2⟩) | ⟨h1, m, h2, h3, h4⟩)
      · exact ⟨j, m, by omega, h2, h3⟩
      · exact ⟨k, q, by omega, h2, .inl ⟨h1, rfl⟩⟩
      · exact ⟨k, m, by omega, (h.nm m).1 h2, .inr ⟨hk, h3, h4, h1⟩⟩
    · rintro ⟨j, m, h1, h2, h3⟩
      rcases Nat.lt_or_ge j k with h4 | h4
      · exact .inl (.inl ⟨j, m, h4, h2, h3⟩)
      · have : j = k := by omega
        subst this
        rcases h3 with ⟨h5, rfl⟩ | ⟨h5, h6, h7, h8⟩
        · exact .inl (.inr ⟨h5, h2⟩)
        · exact .inr ⟨h8, m, (h.nm m).2 h2, h6, h7⟩
end
end Go.Proofs.Ytbgalmnhhjiagaa
