/- Contract of files.New. -/
import Derived.Test.YtkdhfjnfdcopdaaFilL
namespace Go.Proofs.Ytkdhfjnfdcopdaa
open Go.RowKit

def RelNew (w : World) (fs : List Fil) (n : Nat) (i : Value) (wr : World) : Prop :=
  ∃ (k : Nat) (out : List Fil), k ≤ n ∧ i = .int .i64 (k : Nat) ∧ Hid (newGo out (fs.drop k) = newGo [] fs) ∧ Hid (OkF out) ∧ Tab wr (fun b => w.heap.size ≤ b) w.heap.size out ∧ Below w.heap.size w wr ∧ w.heap.size < wr.heap.size
theorem RelNew.mk {w : World} {fs : List Fil} {n : Nat} {i : Value} {wr : World}
    (h : ∃ (k : Nat) (out : List Fil), k ≤ n ∧ i = .int .i64 (k : Nat) ∧ Hid (newGo out (fs.drop k) = newGo [] fs) ∧ Hid (OkF out) ∧ Tab wr (fun b => w.heap.size ≤ b) w.heap.size out ∧ Below w.heap.size w wr ∧ w.heap.size < wr.heap.size) : RelNew w fs n i wr := h
theorem newGo_cons (out r : List Fil) (f : Fil) : newGo out (f :: r) = if (posN out f.1).isSome then ([], 5) else if (putF out f.1 f.2).2 = 0 then newGo (putF out f.1 f.2).1 r else ([], (putF out f.1 f.2).2) := rfl

/-- What New answers. -/
def NewPost (w w' : World) (fs : List Fil) (e : Ending) : Prop :=
  ((newF fs).2 = 0 ∧ ∃ T, e = .returned (.tuple #[.pointer (some ⟨T, 0, none⟩), .int .i64 0]) ∧ Tab w' (fun b => w.heap.size ≤ b) T fs) ∨
  ((newF fs).2 ≠ 0 ∧ e = .returned (.tuple #[.pointer none, .int .i64 (newF fs).2]))

set_option maxHeartbeats 4000000 in
theorem new_any (A : Option Addr) (n c : Nat) (fs : List Fil) (w : World) (hn : n = fs.length) (hnc : n ≤ c) (hz : ∀ f ∈ fs, f.1.size ≤ maxLen) (h : Fils w (fun k => k < w.heap.size) A fs) :
    Calls Try.prog 9 #[.slice A n c] w fun e w' => NewPost w w' fs e ∧ Below w.heap.size w w' := by
  by_cases hbig : 16 < n
  · have hF : newF fs = ([], 7) := by unfold newF; rw [if_pos (by omega)]
    have hP : ∀ w', NewPost w w' fs (.returned (.tuple #[.pointer none, .int .i64 7])) := fun w' => .inr ⟨by rw [hF]; simp, by rw [hF]⟩
    clear hF h hn
    go_enter Try.func9, Try.ntmps9
    go_wp2
    go_ret2
    exact ⟨hP _, Below.refl _ _⟩
  · have hF : newF fs = newGo [] fs := by unfold newF; rw [if_neg (by omega)]
    have hno : ∀ w' c, c ≠ 0 → newGo [] fs = ([], c) → NewPost w w' fs (.returned (.tuple #[.pointer none, .int .i64 c])) := fun w' c hc e => .inr ⟨by rw [hF, e]; exact hc, by rw [hF, e]⟩
    have hyes : ∀ w' out T, newGo [] fs = (out, 0) → Tab w' (fun b => w.heap.size ≤ b) T out → NewPost w w' fs (.returned (.tuple #[.pointer (some ⟨T, 0, none⟩), .int .i64 0])) := fun w' out T e hT => by
      have h0 : (newF fs).2 = 0 := by rw [hF, e]
      have h1 := newF_zero h0
      rw [hF, e] at h1
      have h1 : out = fs := h1
      exact .inl ⟨h0, T, rfl, h1 ▸ hT⟩
    replace hno := Lib.hid hno
    replace hyes := Lib.hid hyes
    replace hz := Lib.hid hz
    replace hn := Lib.hid hn
    replace h := Lib.hid h
    clear hF
    go_enter Try.func9, Try.ntmps9
    go_wp2
    go_loopw [6, 7, 15] (fun _ _ i wr => RelNew w fs n i wr) (fun _ _ i _ => n - (intOf i).toNat)
    case atStart =>
      refine RelNew.mk ⟨0, [], by omega, rfl, Lib.hid (by rw [List.drop_zero]), Lib.hid ok_nil, ⟨.slice none 0 0, [], Nat.le_refl _, heap_alloc_new w _, Row.nil_ _ _⟩, (Below.refl _ w).alloc (Nat.le_refl _) _, by rw [sizeA]; omega⟩
    case round =>
      obtain ⟨k, out, hk, rfl, hgo, hok, hT, hbr, hwr⟩ := hrel
      by_cases hlt : k < n
      · have hlk : k < fs.length := by have := hn.out; omega
        obtain ⟨ad, A1, n1, c1, hA, hbk, hd, he1, hn1, hc1, hm1, hB1⟩ := (h.out.belowB hbr).at_ hlk
        subst hA
        have hnm := hz.out _ (List.getElem_mem hlk)
        have hdr : fs.drop k = fs[k]'hlk :: fs.drop (k + 1) := List.drop_eq_getElem_cons hlk
        have hst0 := hgo.out
        rw [hdr, newGo_cons] at hst0
        clear hdr
        generalize fs[k]'hlk = x at *
        obtain ⟨nm, l⟩ := x
        have hstep : (if (posN out nm).isSome then ([], 5) else if (putF out nm l).2 = 0 then newGo (putF out nm l).1 (fs.drop (k + 1)) else ([], (putF out nm l).2)) = newGo [] fs := hst0
        clear hst0
        have hb1 : ∀ o, Below wr.heap.size wr (wr.alloc o) := fun o => (Below.refl _ wr).alloc (Nat.le_refl _) o
        have hPl := place_any (fun b => w.heap.size ≤ b) w.heap.size out nm (wr.alloc (.cells #[.string nm, .slice A1 n1 c1] 52)) (hT.below (hb1 _))
        have hput := fun (w1 : World) (hb : Below wr.heap.size wr w1) => put_any (fun b => w.heap.size ≤ b) w.heap.size out nm A1 n1 c1 l w1 (hT.below hb) hok.out (fun k hk => Nat.le_trans hbr.size (Nat.le_trans hb.size hk)) hnm hn1 hc1 hm1
          (BytQ.keep hB1 (fun p _ hp => hb.cell hp) (fun k hk _ => by omega))
        have kA := new_cells wr [.string nm, .slice A1 n1 c1] 52 0 _ rfl
        have kB := new_cells wr [.string nm, .slice A1 n1 c1] 52 1 _ rfl
        rw [add_zero_off] at kA kB
        have hokp := putF_ok hok.out nm l
        replace hokp := Lib.hid hokp
        replace hn1 := Lib.hid hn1
        replace hB1 := Lib.hid hB1
        replace hput := Lib.hid hput
        have hne : wr.heap.size ≠ w.heap.size := by omega
        unfold maxLen at hm1
        cases hp : posN out nm with
        | some j =>
          rw [posI_some hp] at hPl
          rw [hp, if_pos (by rfl)] at hstep
          replace hPl := Lib.hid hPl
          replace hstep := Lib.hid hstep
          clear hp
          go_wp2_with (first
            | (go_at_call 29; refine (hPl.out).mono ?_; rintro e w1 ⟨rfl, hb⟩
               have hb1w := (hb1 (.cells #[.string nm, .slice A1 n1 c1] 52)).trans (hb.mono (hb1 _).size)))
          go_ret2
          exact ⟨hno.out _ 5 (by omega) (Eq.symm hstep), hbr.trans (hb1w.mono hbr.size)⟩
        | none =>
          rw [posI_neg hp] at hPl
          rw [hp, if_neg (by simp)] at hstep
          replace hPl := Lib.hid hPl
          clear hp
          generalize hpe : putF out nm l = pe at *
          obtain ⟨out', e0⟩ := pe
          replace hstep : (if e0 = 0 then newGo out' (fs.drop (k + 1)) else ([], e0)) = newGo [] fs := hstep
          clear hpe
          by_cases he : e0 = 0
          · subst he
            rw [if_pos rfl] at hstep
            replace hstep := Lib.hid hstep
            go_wp2_with (first
              | (go_at_call 29; refine (hPl.out).mono ?_; rintro e w1 ⟨rfl, hb⟩
                 have hb1w := (hb1 (.cells #[.string nm, .slice A1 n1 c1] 52)).trans (hb.mono (hb1 _).size)
                 have k0 := (hb.cell (p := ⟨wr.heap.size, 0, none⟩) (by simp)).trans kA
                 have k1 := (hb.cell (p := ⟨wr.heap.size, 1, none⟩) (by simp)).trans kB)
              | (go_at_call 13; refine (hput.out _ hb1w).mono ?_; rintro e w2 ⟨rfl, hT2, hF2⟩
                 have hb2w : Below w.heap.size w w2 := (hbr.trans (hb1w.mono hbr.size)).trans (hF2.below (fun b _ h => h) (Nat.le_trans hbr.size hb1w.size))
                 have hT2 := Lib.hid hT2))
            go_roundw
            case rel => exact RelNew.mk ⟨k + 1, out', by omega, by go_num, hstep, hokp, hT2.out, hb2w, by have := hb1w.size; have := hF2.size; omega⟩
            case measure => simp [intOf]; omega
          · rw [if_neg he] at hstep
            have hne0 : (e0 == 0) = false := by rw [beq_eq_false_iff_ne]; exact he
            replace hstep := Lib.hid hstep
            have he2 := Lib.hid he
            clear he
            go_wp2_with (first
              | (go_at_call 29; refine (hPl.out).mono ?_; rintro e w1 ⟨rfl, hb⟩
                 have hb1w := (hb1 (.cells #[.string nm, .slice A1 n1 c1] 52)).trans (hb.mono (hb1 _).size)
                 have k0 := (hb.cell (p := ⟨wr.heap.size, 0, none⟩) (by simp)).trans kA
                 have k1 := (hb.cell (p := ⟨wr.heap.size, 1, none⟩) (by simp)).trans kB)
              | (go_at_call 13; refine (hput.out _ hb1w).mono ?_; rintro e w2 ⟨rfl, hT2, hF2⟩
                 have hb2w : Below w.heap.size w w2 := (hbr.trans (hb1w.mono hbr.size)).trans (hF2.below (fun b _ h => h) (Nat.le_trans hbr.size hb1w.size))
                 have hT2 := Lib.hid hT2))
            go_ret2
            exact ⟨hno.out _ e0 he2.out (Eq.symm hstep), hb2w⟩
      · obtain rfl : k = n := by omega
        have hend := hgo.out
        rw [List.drop_of_length_le (by rw [← hn.out]; exact Nat.le_refl _)] at hend
        have hend : (out, (0 : Int)) = newGo [] fs := hend
        replace hend := Lib.hid hend
        go_wp2
        go_ret2
        exact ⟨hyes.out _ out _ hend.out.symm hT, hbr⟩
end Go.Proofs.Ytkdhfjnfdcopdaa
