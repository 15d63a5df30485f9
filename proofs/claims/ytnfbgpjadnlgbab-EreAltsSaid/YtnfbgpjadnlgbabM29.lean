/- Contracts of package brack: lone, end. -/
import Derived.Test.YtnfbgpjadnlgbabM28
set_option maxRecDepth 100000
namespace Go.Proofs.Ytnfbgpjadnlgbab
open Go.RowKit

/-- What an end's call tells: the byte, how many bytes it takes, what is wrong (a class is no end). -/
def endA : Pc → Int
  | .one c _ => (c.toNat : Int)
  | _ => 0
def endB : Pc → Int
  | .one _ m => (m : Int)
  | _ => 0
def endC : Pc → Int
  | .bad e => (e : Int)
  | .one _ _ => 0
  | .cls _ _ => 3
theorem bg_second {x y : UInt8} {l : List UInt8} (h : bg [x, y] l = true) : l[0]? = some x ∧ l[1]? = some y := by
  match l, h with
  | [], h => cases h
  | [_], h => simp [bg, List.isPrefixOf] at h
  | a :: b :: r, h =>
    simp only [bg_cons, bg_nil, Bool.and_true, Bool.and_eq_true, beq_iff_eq] at h
    simp [h.1, h.2]

set_option maxRecDepth 100000 in
set_option maxHeartbeats 2000000 in
theorem lone_any {A : Option Addr} {n c : Nat} {l : List UInt8} {w : World} (h : Inp w A n c l) (sg : UInt8) (hsg : l[1]? = some sg) :
    Calls Try.prog 87 #[.slice A n c] w fun e w' => e = .returned (.tuple #[.int .u8 (endA (loneP sg l)), .int .i64 (endB (loneP sg l)), .int .i64 (endC (loneP sg l))]) ∧ Below w.heap.size w w' := by
  unfold loneP
  cases hb : betw sg (l.drop 2) with
  | none =>
    have hI := Lib.hid (between_none h sg hsg hb)
    clear h hsg hb
    go_enter Try.func87, Try.ntmps87
    go_wp2_with (go_at_call 85; refine (hI.out).mono ?_; rintro e w1 ⟨rfl, hb1⟩)
    go_ret3
    exact ⟨rfl, hb1⟩
  | some i =>
    have hl2 : 2 ≤ l.length := (List.getElem?_eq_some_iff.1 hsg).1
    obtain ⟨ad, rfl⟩ := h.some_ (by omega)
    have hi := betw_len hb
    rw [List.length_drop] at hi
    have hI := Lib.hid (between_some h sg hsg i hb)
    have h2 : l[2]? = some ((l.drop 2).headD 0) := by
      rw [List.getElem?_eq_getElem (by omega), List.drop_eq_getElem_cons (show 2 < l.length by omega)]; rfl
    obtain ⟨hd, hdb⟩ := h.cell h2
    rw [add_succ ad 1] at hd
    generalize (l.drop 2).headD 0 = x at *
    have hx := x.toNat_lt
    by_cases h1 : i = 1
    · subst h1
      show Calls _ _ _ _ fun e w' => e = .returned (.tuple #[.int .u8 (x.toNat : Int), .int .i64 5, .int .i64 0]) ∧ Below w.heap.size w w'
      generalize x.toNat = X at *
      clear h hsg hb h2 hi
      go_enter Try.func87, Try.ntmps87
      go_wp2_with (go_at_call 85; refine (hI.out).mono ?_; rintro e w1 ⟨rfl, hb1⟩; have hd1 := (hb1.cell (p := ⟨ad.block, ad.off + 2, none⟩) hdb).trans hd)
      go_ret3
      exact ⟨rfl, hb1⟩
    · have hne : ((i : Int) != 1) = true := by simp; omega
      simp only [if_neg h1]
      have h1' := Lib.hid h1
      clear h hsg hb h2 hi h1
      go_enter Try.func87, Try.ntmps87
      go_wp2_with (go_at_call 85; refine (hI.out).mono ?_; rintro e w1 ⟨rfl, hb1⟩)
      go_ret3
      exact ⟨rfl, hb1⟩

set_option maxRecDepth 100000 in
set_option maxHeartbeats 2000000 in
theorem end_any {A : Option Addr} {n c : Nat} {l : List UInt8} {w : World} (h : Inp w A n c l) :
    Calls Try.prog 81 #[.slice A n c] w fun e w' => e = .returned (.tuple #[.int .u8 (endA (endP l)), .int .i64 (endB (endP l)), .int .i64 (endC (endP l))]) ∧ Below w.heap.size w w' := by
  by_cases h0 : l.length = 0
  · obtain rfl : l = [] := List.length_eq_zero_iff.1 h0
    obtain rfl : n = 0 := h.len
    clear h h0
    go_enter Try.func81, Try.ntmps81
    go_wp2
    go_ret3
    exact ⟨rfl, Below.refl _ _⟩
  · obtain ⟨ad, rfl⟩ := h.some_ (by omega)
    have hn := h.len
    have hn0 : 0 < n := by omega
    have h' := Lib.hid h
    have hx0 : l[0]? = some (l[0]'(by omega)) := List.getElem?_eq_getElem _
    obtain ⟨hd, hdb⟩ := h.cell hx0
    rw [show ad.add 0 = ad by cases ad; simp [Addr.add]] at hd
    have hE : endP l = if bg [91, 46] l then loneP 46 l else if bg [91, 61] l then loneP 61 l else if bg [92, 110] l then .one 10 2 else .one (l[0]'(by omega)) 1 := by
      unfold endP
      cases l with
      | nil => simp at h0
      | cons y r => rfl
    rw [hE]
    clear hE hx0
    generalize hX : (l[0]'(by omega)) = x at *
    have hx := x.toNat_lt
    clear hX h hn
    cases h1 : bg [91, 46] l with
    | true =>
      have hL := Lib.hid (fun w1 (h : Inp w1 (some ad) n c l) => lone_any h 46 (bg_second h1).2)
      replace h1 := Lib.hid h1
      rw [if_pos rfl]
      generalize endA (loneP 46 l) = a at *
      generalize endB (loneP 46 l) = b at *
      generalize endC (loneP 46 l) = d at *
      go_enter Try.func81, Try.ntmps81
      go_wp2_with (first
        | (go_at_call 66; with_reducible show Calls _ _ #[_, Value.string {data := #[91, 46]}] _ _; refine (begins_is h'.out ⟨#[91, 46]⟩ true h1.out).mono ?_; rintro e w1 ⟨rfl, hb1⟩)
        | (go_at_call 87; refine (hL.out _ (h'.out.grow hb1)).mono ?_; rintro e w2 ⟨rfl, hb2⟩))
      go_ret3
      exact ⟨rfl, hb1.trans (hb2.mono hb1.size)⟩
    | false =>
      rw [if_neg (by decide)]
      cases h2 : bg [91, 61] l with
      | true =>
        have hL := Lib.hid (fun w1 (h : Inp w1 (some ad) n c l) => lone_any h 61 (bg_second h2).2)
        replace h1 := Lib.hid h1
        replace h2 := Lib.hid h2
        rw [if_pos rfl]
        generalize endA (loneP 61 l) = a at *
        generalize endB (loneP 61 l) = b at *
        generalize endC (loneP 61 l) = d at *
        go_enter Try.func81, Try.ntmps81
        go_wp2_with (first
          | (go_at_call 66; with_reducible show Calls _ _ #[_, Value.string {data := #[91, 46]}] _ _; refine (begins_is h'.out ⟨#[91, 46]⟩ false h1.out).mono ?_; rintro e w1 ⟨rfl, hb1⟩)
          | (go_at_call 66; with_reducible show Calls _ _ #[_, Value.string {data := #[91, 61]}] _ _; refine (begins_is (h'.out.grow hb1) ⟨#[91, 61]⟩ true h2.out).mono ?_; rintro e w2 ⟨rfl, hb2⟩)
          | (go_at_call 87; refine (hL.out _ ((h'.out.grow hb1).grow hb2)).mono ?_; rintro e w3 ⟨rfl, hb3⟩))
        go_ret3
        exact ⟨rfl, (hb1.trans (hb2.mono hb1.size)).trans (hb3.mono (hb1.trans (hb2.mono hb1.size)).size)⟩
      | false =>
        rw [if_neg (by decide)]
        cases h3 : bg [92, 110] l with
        | true =>
          replace h1 := Lib.hid h1
          replace h2 := Lib.hid h2
          replace h3 := Lib.hid h3
          rw [if_pos rfl]
          go_enter Try.func81, Try.ntmps81
          go_wp2_with (first
            | (go_at_call 66; with_reducible show Calls _ _ #[_, Value.string {data := #[91, 46]}] _ _; refine (begins_is h'.out ⟨#[91, 46]⟩ false h1.out).mono ?_; rintro e w1 ⟨rfl, hb1⟩)
            | (go_at_call 66; with_reducible show Calls _ _ #[_, Value.string {data := #[91, 61]}] _ _; refine (begins_is (h'.out.grow hb1) ⟨#[91, 61]⟩ false h2.out).mono ?_; rintro e w2 ⟨rfl, hb2⟩)
            | (go_at_call 66; with_reducible show Calls _ _ #[_, Value.string {data := #[92, 110]}] _ _; refine (begins_is ((h'.out.grow hb1).grow hb2) ⟨#[92, 110]⟩ true h3.out).mono ?_; rintro e w3 ⟨rfl, hb3⟩))
          go_ret3
          exact ⟨rfl, (hb1.trans (hb2.mono hb1.size)).trans (hb3.mono (hb1.trans (hb2.mono hb1.size)).size)⟩
        | false =>
          replace h1 := Lib.hid h1
          replace h2 := Lib.hid h2
          replace h3 := Lib.hid h3
          rw [if_neg (by decide)]
          show Calls _ _ _ _ fun e w' => e = .returned (.tuple #[.int .u8 (x.toNat : Int), .int .i64 1, .int .i64 0]) ∧ Below w.heap.size w w'
          generalize x.toNat = X at *
          go_enter Try.func81, Try.ntmps81
          go_wp2_with (first
            | (go_at_call 66; with_reducible show Calls _ _ #[_, Value.string {data := #[91, 46]}] _ _; refine (begins_is h'.out ⟨#[91, 46]⟩ false h1.out).mono ?_; rintro e w1 ⟨rfl, hb1⟩)
            | (go_at_call 66; with_reducible show Calls _ _ #[_, Value.string {data := #[91, 61]}] _ _; refine (begins_is (h'.out.grow hb1) ⟨#[91, 61]⟩ false h2.out).mono ?_; rintro e w2 ⟨rfl, hb2⟩)
            | (go_at_call 66; with_reducible show Calls _ _ #[_, Value.string {data := #[92, 110]}] _ _; refine (begins_is ((h'.out.grow hb1).grow hb2) ⟨#[92, 110]⟩ false h3.out).mono ?_; rintro e w3 ⟨rfl, hb3⟩; have hB := (hb1.trans (hb2.mono hb1.size)).trans (hb3.mono (hb1.trans (hb2.mono hb1.size)).size); have hd3 := (hB.cell hdb).trans hd))
          go_ret3
          exact ⟨rfl, hB⟩
end Go.Proofs.Ytnfbgpjadnlgbab
