/- The best of all: of the ways' matches, of the relation's points, in whatever order: one hit; it begins at the place and lies in the text, and so do its groups. Nothing here speaks of a program. -/
import Derived.Test.YtbgalmnhhjiagaaM19
set_option linter.unusedVariables false
set_option maxRecDepth 100000
namespace Go.Proofs.Ytbgalmnhhjiagaa
open Go.RowKit

/-- Where it begins: nothing has a span. -/
def pt0 (i : Nat) : Pt := ⟨i, fun _ => (-1, -1)⟩
/-- The spans of a match that ends there. -/
def hitS (a : Nat) (q : Pt) : Spn := setSp q.sp 0 ((a : Int), (q.i : Int))
theorem hitS_0 (a : Nat) (q : Pt) : hitS a q 0 = ((a : Int), (q.i : Int)) := by unfold hitS setSp; rw [if_pos rfl]
theorem hitS_g (a : Nat) (q : Pt) {g : Nat} (h : 1 ≤ g) : hitS a q g = q.sp g := by unfold hitS setSp; rw [if_neg (by omega)]
theorem pt0_lies (i : Nat) (a g : Int) : Lies a g (pt0 i) := fun _ => .inl rfl
theorem bestF_none {l : List Spn} : bestF none l = none ↔ l = [] := by
  cases l with
  | nil => exact ⟨fun _ => rfl, fun _ => rfl⟩
  | cons x r =>
    rw [bestF]
    obtain ⟨m, hm⟩ := bestF_some r x
    rw [hm]
    constructor <;> intro h <;> cases h
theorem bestF_in {l : List Spn} {m : Spn} (h : bestF none l = some m) : m ∈ l := by
  cases l with
  | nil => cases h
  | cons x r =>
    rw [bestF] at h
    rcases bestF_mem r x m h with rfl | h
    · exact List.mem_cons_self
    · exact List.mem_cons_of_mem _ h
/-- A match's spans: what a law asks of them. -/
def Spans (a g e : Int) (m : Spn) : Prop := (m 0).1 = a ∧ a ≤ (m 0).2 ∧ (m 0).2 ≤ e ∧ ∀ k, 1 ≤ k → m k = (-1, -1) ∨ ((k : Int) ≤ g ∧ a ≤ (m k).1 ∧ (m k).1 ≤ (m k).2 ∧ (m k).2 ≤ (m 0).2)
section
variable {ns : List Nod} {t : List UInt8} {g : Int}
theorem lies_spans {a : Nat} {q : Pt} (h : Lies a g q) (h1 : a ≤ q.i) (h2 : q.i ≤ t.length) : Spans a g t.length (hitS a q) := by
  unfold Spans
  rw [hitS_0]
  refine ⟨rfl, by show (a : Int) ≤ (q.i : Int); omega, by show (q.i : Int) ≤ _; omega, fun k hk => ?_⟩
  rw [hitS_g a q hk]
  rcases h k with h | ⟨⟨_, h3⟩, h4, h5, h6⟩
  · exact .inl h
  · exact .inr ⟨h3, h4, h5, h6⟩
theorem rel_hit (hr : Rt ns g) {n : Int} (h0 : 0 ≤ n) (h1 : n < ns.length) {a : Nat} {q : Pt} (h : Rel ns t (.node n) (pt0 a) q) : Lies a g q ∧ a ≤ q.i ∧ (a ≤ t.length → q.i ≤ t.length) :=
  ⟨h.lies hr ⟨h0, h1⟩ (Int.le_refl _) (pt0_lies a a g), h.le.1, h.le.2⟩
theorem hit_same {a : Nat} {p q : Pt} (hg : g ≤ 9) (h1 : Lies a g p) (h2 : Lies a g q) (h : same10 (hitS a p) (hitS a q)) : p = q := by
  have e0 := h 0 (by omega)
  rw [hitS_0, hitS_0, Prod.mk.injEq] at e0
  have e1 : p.sp = q.sp := by
    funext k
    by_cases hk : k < 10
    · cases k with
      | zero => rw [h1.zero, h2.zero]
      | succ k =>
        have := h (k + 1) hk
        rwa [hitS_g a p (by omega), hitS_g a q (by omega)] at this
    · rw [h1.ten hg k (by omega), h2.ten hg k (by omega)]
  obtain ⟨i, s⟩ := p
  obtain ⟨j, u⟩ := q
  have e2 : i = j := by have := e0.2; simp at this; omega
  have e3 : s = u := e1
  rw [e2, e3]
theorem hits_of (hr : Rt ns g) {n : Int} (h0 : 0 ≤ n) (h1 : n < ns.length) {a : Nat} {l : List Pt} (h : ∀ q ∈ l, Rel ns t (.node n) (pt0 a) q) : Hits (a : Int) (l.map (hitS a)) := fun x hx => by
  obtain ⟨q, hq, rfl⟩ := List.mem_map.1 hx
  obtain ⟨hl, h2, _⟩ := rel_hit hr h0 h1 (h q hq)
  refine ⟨fun k => ?_, by rw [hitS_0]⟩
  cases k with
  | zero => rw [hitS_0]; intro hk; exact absurd hk (by show ¬ ((a : Int) < 0); omega)
  | succ k => rw [hitS_g a q (by omega)]; exact hl.good (by omega) _
/-- Rows of the same points have one best hit. -/
theorem best_eq (hr : Rt ns g) {n : Int} (h0 : 0 ≤ n) (h1 : n < ns.length) {a : Nat} {l k : List Pt} (h : ∀ q ∈ l, Rel ns t (.node n) (pt0 a) q) (hm : ∀ q, q ∈ l ↔ q ∈ k) : bestF none (l.map (hitS a)) = bestF none (k.map (hitS a)) := by
  have hk : ∀ q ∈ k, Rel ns t (.node n) (pt0 a) q := fun q hq => h q ((hm q).2 hq)
  cases e1 : bestF none (l.map (hitS a)) with
  | none =>
    have := bestF_none.1 e1
    rw [List.map_eq_nil_iff] at this
    subst this
    have : k = [] := by
      cases k with
      | nil => rfl
      | cons x r => exact absurd ((hm x).2 List.mem_cons_self) (by simp)
    rw [this]; rfl
  | some m =>
    cases e2 : bestF none (k.map (hitS a)) with
    | none =>
      have := bestF_none.1 e2
      rw [List.map_eq_nil_iff] at this
      subst this
      obtain ⟨q, hq, _⟩ := List.mem_map.1 (bestF_in e1)
      exact absurd ((hm q).1 hq) (by simp)
    | some m' =>
      have hs := best_one (hits_of hr h0 h1 h) (hits_of hr h0 h1 hk) (fun x hx => ?_) (fun y hy => ?_) e1 e2
      · obtain ⟨p, hp, rfl⟩ := List.mem_map.1 (bestF_in e1)
        obtain ⟨q, hq, rfl⟩ := List.mem_map.1 (bestF_in e2)
        rw [hit_same hr.2.1 (rel_hit hr h0 h1 (h p hp)).1 (rel_hit hr h0 h1 (hk q hq)).1 hs]
      · obtain ⟨q, hq, rfl⟩ := List.mem_map.1 hx
        exact ⟨_, List.mem_map.2 ⟨q, (hm q).1 hq, rfl⟩, fun _ _ => rfl⟩
      · obtain ⟨q, hq, rfl⟩ := List.mem_map.1 hy
        exact ⟨_, List.mem_map.2 ⟨q, (hm q).2 hq, rfl⟩, fun _ _ => rfl⟩
/-- A whole tree's ways and its relation. -/
theorem stk_rel (hr : Rt ns g) {n : Int} {p : Pt} {c : Nat} {hs : List Pt} (h : Stk ns t [([.node n], p)] c hs) (q : Pt) : q ∈ hs ↔ Rel ns t (.node n) p q := by
  rw [h.mem hr.kind]
  constructor
  · rintro ⟨w, hw, h1⟩
    simp only [List.mem_singleton] at hw
    subst hw
    exact way_iff.1 h1
  · intro h1
    exact ⟨_, List.mem_singleton.2 rfl, way_iff.2 h1⟩
theorem stk_best (hr : Rt ns g) {n : Int} (h0 : 0 ≤ n) (h1 : n < ns.length) {a c : Nat} {hs l : List Pt} (h : Stk ns t [([.node n], pt0 a)] c hs) (hl : ∀ q, q ∈ l ↔ Rel ns t (.node n) (pt0 a) q) : bestF none (hs.map (hitS a)) = bestF none (l.map (hitS a)) :=
  best_eq hr h0 h1 (fun q hq => (stk_rel hr h q).1 hq) fun q => (stk_rel hr h q).trans (hl q).symm
theorem perm_best (hr : Rt ns g) {n : Int} (h0 : 0 ≤ n) (h1 : n < ns.length) {a c : Nat} {hs ks : List Pt} (h : Stk ns t [([.node n], pt0 a)] c hs) (e : hs.Perm ks) : bestF none (hs.map (hitS a)) = bestF none (ks.map (hitS a)) :=
  best_eq hr h0 h1 (fun q hq => (stk_rel hr h q).1 hq) fun q => e.mem_iff
theorem stk_spans (hr : Rt ns g) {n : Int} (h0 : 0 ≤ n) (h1 : n < ns.length) {a c : Nat} (ha : a ≤ t.length) {hs : List Pt} (h : Stk ns t [([.node n], pt0 a)] c hs) {m : Spn} (hm : bestF none (hs.map (hitS a)) = some m) : Spans a g t.length m := by
  obtain ⟨q, hq, rfl⟩ := List.mem_map.1 (bestF_in hm)
  obtain ⟨h2, h3, h4⟩ := rel_hit hr h0 h1 ((stk_rel hr h q).1 hq)
  exact lies_spans h2 h3 (h4 ha)
theorem stk_one {n : Int} {p : Pt} {c : Nat} {hs : List Pt} (h : Stk ns t [([.node n], p)] c hs) : 1 ≤ c := by cases h; omega
/-- bestF goes on. -/
theorem bestF_app : ∀ (l k : List Spn) (o : Option Spn), bestF o (l ++ k) = bestF (bestF o l) k
  | [], k, o => by cases o <;> rfl
  | x :: l, k, none => by rw [List.cons_append, bestF, bestF]; exact bestF_app l k _
  | x :: l, k, some b => by rw [List.cons_append, bestF, bestF]; exact bestF_app l k _
end
/-- What is told of a match: the best hit and what it costs, or that it costs too much. -/
inductive Told11 (ns : List Nod) (t : List UInt8) (n : Int) (a : Nat) (M : Int) : Option (Option Spn × Int) → Prop
  | fin {c : Nat} {hs : List Pt} (h : Stk ns t [([.node n], pt0 a)] c hs) (hc : (c : Int) ≤ M) : Told11 ns t n a M (some (bestF none (hs.map (hitS a)), M - c))
  | over (h : Over ns t [([.node n], pt0 a)] M) : Told11 ns t n a M none
theorem Told11.det {ns : List Nod} {t : List UInt8} {n : Int} {a : Nat} {M : Int} {x y : Option (Option Spn × Int)} (h : Told11 ns t n a M x) (k : Told11 ns t n a M y) : x = y := by
  cases h with
  | fin h hc =>
    cases k with
    | fin k kc => obtain ⟨rfl, rfl⟩ := h.det k; rfl
    | over k => exact (k.stk h hc).elim
  | over h =>
    cases k with
    | fin k kc => exact (h.stk k kc).elim
    | over k => rfl
/-- More fuel, or less, than it costs. -/
theorem Told11.more {ns : List Nod} {t : List UInt8} {n : Int} {a : Nat} {M l : Int} {b : Option Spn} (h : Told11 ns t n a M (some (b, l))) (M' : Int) : (M - l ≤ M' → Told11 ns t n a M' (some (b, M' - (M - l)))) ∧ (M' < M - l → Told11 ns t n a M' none) ∧ 1 ≤ M - l := by
  cases h with
  | @fin c hs h hc =>
    refine ⟨fun h1 => ?_, fun h1 => .over fun d ks k => ?_, ?_⟩
    · rw [show M' - (M - (M - (c : Int))) = M' - c by omega]
      exact .fin h (by omega)
    · obtain ⟨rfl, _⟩ := h.det k; omega
    · have := stk_one h; omega
end Go.Proofs.Ytbgalmnhhjiagaa
