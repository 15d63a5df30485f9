/- TreeMost answers true at every byte. Conditions: none. -/
import Derived.Test.YtmcfbocdkhimmaaFrame
import Derived.Test.YtmcfbocdkhimmaaTreM
set_option linter.unusedVariables false
namespace Go.Proofs.Ytmcfbocdkhimmaa.Most
open Go.ChangeShapes Go.WideShapes Go.ChangeAt Go.RowKit

/-- The nodes that the law puts. -/
def nodeAt (j : Nat) : Nod := if j = 0 then bolN else if j % 2 = 1 then setN zset else twoN 2 ((j : Int) - 2) ((j : Int) - 1)
def mostN (k : Nat) : List Nod := (List.range k).map nodeAt
theorem mostN_len (k : Nat) : (mostN k).length = k := by simp [mostN]
theorem mostN_next (k : Nat) : mostN (k + 1) = mostN k ++ [nodeAt k] := by simp [mostN, List.range_succ]
theorem nodeAt_odd {k : Nat} (h : k % 2 = 1) : nodeAt k = setN zset := by
  have : ¬ k = 0 := by omega
  simp [nodeAt, this, h]
theorem nodeAt_even {k : Nat} (h : k % 2 = 0) (h0 : k ≠ 0) : nodeAt k = twoN 2 ((k : Int) - 2) ((k : Int) - 1) := by simp [nodeAt, h, h0]
theorem nodeAt_kind (k : Nat) : (nodeAt k).kind ≠ 5 := by
  unfold nodeAt
  split
  · decide
  split
  · show (1 : Int) ≠ 5; decide
  · show (2 : Int) ≠ 5; decide
theorem most_grps (k i : Nat) : grpsN ((mostN 1000).take k) i = 0 := by
  unfold grpsN
  have : ((mostN 1000).take k).filter (fun n => decide (n.kind = 5)) = [] := by
    rw [List.filter_eq_nil_iff]
    intro n hn
    have hm := List.mem_of_mem_take hn
    unfold mostN at hm
    obtain ⟨j, _, rfl⟩ := List.mem_map.1 hm
    simpa using nodeAt_kind j
  rw [this]; rfl
theorem most_wrong (k : Nat) : rightN ((mostN 1000).take k) 9 = false := by
  unfold rightN
  have : onceL ((List.range (9 : Int).toNat).map fun i => grpsN ((mostN 1000).take k) (i + 1)) = false :=
    onceL_no (k := 0) (by simp) (by simp [most_grps])
  rw [this]; simp
theorem cat_even (k : Nat) (h : k % 2 = 0) (h2 : 2 ≤ k) (hk : k < 1000) : catR (mostN k) 9 [((k - 2 : Nat) : Int), (k : Int) - 1] = ((k : Int), mostN (k + 1)) := by
  have hl := mostN_len k
  unfold catR
  rw [if_neg (by simp)]
  show (if okP ((mostN k).length : Int) ((k - 2 : Nat) : Int) = true then chainGo 9 2 ((k - 2 : Nat) : Int) (mostN k) [(k : Int) - 1] else (-1, mostN k)) = _
  rw [hl, if_pos (okP_yes (by omega) (by omega))]
  show (if canPut (mostN k) 9 (twoN 2 ((k - 2 : Nat) : Int) ((k : Int) - 1)) = true then (((mostN k).length : Int), mostN k ++ [twoN 2 ((k - 2 : Nat) : Int) ((k : Int) - 1)]) else (-1, mostN k)) = _
  rw [if_pos (canPut_of (by omega) (by rw [fits_two 2 (.inl rfl), hl, okP_yes (by omega) (by omega), okP_yes (by omega) (by omega)]; rfl)), hl, mostN_next, nodeAt_even h (by omega),
    show (((k - 2 : Nat) : Int)) = (k : Int) - 2 by omega]
theorem cat_full (a b : Nat) (ha : a < 1000) : catR (mostN 1000) 9 [(a : Int), (b : Int)] = (-1, mostN 1000) := by
  have hl := mostN_len 1000
  unfold catR
  rw [if_neg (by simp)]
  show (if okP ((mostN 1000).length : Int) (a : Int) = true then chainGo 9 2 (a : Int) (mostN 1000) [(b : Int)] else (-1, mostN 1000)) = _
  rw [hl, if_pos (okP_yes (by omega) (by omega))]
  show (if canPut (mostN 1000) 9 (twoN 2 (a : Int) (b : Int)) = true then (((mostN 1000).length : Int), mostN 1000 ++ [twoN 2 (a : Int) (b : Int)]) else (-1, mostN 1000)) = _
  rw [if_neg (by rw [canPut_full (by omega)]; decide)]
theorem one_in (k : Int) (a : Nat) (ha : a < 1000) : chainN (mostN 1000) 9 k [(a : Int)] = ((a : Int), mostN 1000) := by
  have hl := mostN_len 1000
  show (if okP ((mostN 1000).length : Int) (a : Int) = true then chainGo 9 k (a : Int) (mostN 1000) [] else (-1, mostN 1000)) = _
  rw [hl, if_pos (okP_yes (by omega) (by omega))]; rfl
theorem one_out (k : Int) (a : Nat) (ha : 1000 ≤ a) : chainN (mostN 1000) 9 k [(a : Int)] = (-1, mostN 1000) := by
  have hl := mostN_len 1000
  show (if okP ((mostN 1000).length : Int) (a : Int) = true then chainGo 9 k (a : Int) (mostN 1000) [] else (-1, mostN 1000)) = _
  rw [hl, if_neg (by rw [okP_big (by omega)]; decide)]
theorem cat_one (a : Nat) (ha : a < 1000) : catR (mostN 1000) 9 [(a : Int)] = ((a : Int), mostN 1000) := by unfold catR; rw [if_neg (by simp), one_in 2 a ha]
theorem alt_one (a : Nat) (ha : a < 1000) : altR (mostN 1000) 9 [(a : Int)] = ((a : Int), mostN 1000) := by unfold altR; rw [if_neg (by simp), one_in 3 a ha]
theorem cat_out : catR (mostN 1000) 9 [((1000 : Nat) : Int)] = (-1, mostN 1000) := by unfold catR; rw [if_neg (by simp), one_out 2 1000 (Nat.le_refl _)]
theorem alt_none : altR (mostN 1000) 9 [] = (-1, mostN 1000) := rfl
theorem alt_new (B T o : Nat) (v : Value) (ns : List Nod) (g : Nat) (w : World) (h : Bldr w B T o v ns g) (l : List Int) (hl : l.length ≤ 1000) :
    Calls Try.prog 14 #[.pointer (some ⟨T, o, none⟩), .slice (some ⟨w.heap.size, 0, none⟩) l.length l.length] (w.alloc (.cells (l.map (Value.int .i64)).toArray 3)) fun e w' => ∃ v', e = .returned (.int .i64 (altR ns g l).1) ∧ Bldr w' B T o v' (altR ns g l).2 g ∧ Chg w w' T o v v' := by
  have hb : Below w.heap.size w (w.alloc (.cells (l.map (Value.int .i64)).toArray 3)) := (Below.refl _ _).alloc (Nat.le_refl _) _
  have := alt_any B T o v ns g (some ⟨w.heap.size, 0, none⟩) l.length l.length (w.heap.size + 1) l _ (h.keep hb) rfl (Nat.le_refl _) (by omega) (vals_new w _ 3 (0, 0)) (by simp) (apart_new h)
  exact this.mono fun e w' ⟨v', h1, h2, h3⟩ => ⟨v', h1, h2, (Chg.of_below hb).trans h3⟩

/-- The builder at W's end has these nodes, and nothing of W has turned. -/
def At (W : World) (ns : List Nod) (g : Nat) (w : World) : Prop := ∃ v, Bldr w W.heap.size W.heap.size 0 v ns g ∧ Below W.heap.size W w
theorem At.of {W w w' : World} {v v' : Value} {ns ns' : List Nod} {g g' : Nat} (h : Bldr w W.heap.size W.heap.size 0 v ns g) (hb : Below W.heap.size W w) (h' : Bldr w' W.heap.size W.heap.size 0 v' ns' g') (hc : Chg w w' W.heap.size 0 v v') : At W ns' g' w' :=
  ⟨v', h', hb.trans (h.below (Nat.le_refl _) hc)⟩
theorem At.drew {W w : World} {ns : List Nod} {g : Nat} (h : At W ns g w) : At W ns g w.drew := by obtain ⟨v, h1, h2⟩ := h; exact ⟨v, h1.drew, h2.drew⟩
section
variable {W w : World} {ns : List Nod} {g : Nat}
theorem At.open_ (h : At W ns g w) : Calls Try.prog 8 #[.pointer (some ⟨W.heap.size, 0, none⟩)] w fun e w' => e = .returned (.int .i64 (openI g)) ∧ At W ns (openG g) w' := by
  obtain ⟨v, h1, h2⟩ := h
  exact (open_any _ _ 0 v ns g w h1).mono fun e w' ⟨e1, e2, e3⟩ => ⟨e1, At.of h1 h2 e2 e3⟩
theorem At.bol (h : At W ns g w) : Calls Try.prog 9 #[.pointer (some ⟨W.heap.size, 0, none⟩)] w fun e w' => e = .returned (.int .i64 (putI ns g bolN)) ∧ At W (putL ns g bolN) g w' := by
  obtain ⟨v, h1, h2⟩ := h
  exact (bol_any _ _ 0 v ns g w h1).mono fun e w' ⟨v', e1, e2, e3⟩ => ⟨e1, At.of h1 h2 e2 e3⟩
theorem At.empty (h : At W ns g w) : Calls Try.prog 12 #[.pointer (some ⟨W.heap.size, 0, none⟩)] w fun e w' => e = .returned (.int .i64 (putI ns g emptyN)) ∧ At W (putL ns g emptyN) g w' := by
  obtain ⟨v, h1, h2⟩ := h
  exact (empty_any _ _ 0 v ns g w h1).mono fun e w' ⟨v', e1, e2, e3⟩ => ⟨e1, At.of h1 h2 e2 e3⟩
theorem At.set (h : At W ns g w) : Calls Try.prog 10 #[.pointer (some ⟨W.heap.size, 0, none⟩), .agg #[.int .u64 0, .int .u64 0, .int .u64 0, .int .u64 0]] w fun e w' => e = .returned (.int .i64 (putI ns g (setN zset))) ∧ At W (putL ns g (setN zset)) g w' := by
  obtain ⟨v, h1, h2⟩ := h
  have := set_any _ _ 0 v ns g w h1 zset
  rw [show setV zset = .agg #[.int .u64 0, .int .u64 0, .int .u64 0, .int .u64 0] from by unfold setV zset; rw [setC_none]] at this
  exact this.mono fun e w' ⟨v', e1, e2, e3⟩ => ⟨e1, At.of h1 h2 e2 e3⟩
theorem At.cat (h : At W ns g w) (l : List Int) (hl : l.length ≤ 1000) : Calls Try.prog 11 #[.pointer (some ⟨W.heap.size, 0, none⟩), .slice (some ⟨w.heap.size, 0, none⟩) l.length l.length] (w.alloc (.cells (l.map (Value.int .i64)).toArray 3)) fun e w' => e = .returned (.int .i64 (catR ns g l).1) ∧ At W (catR ns g l).2 g w' := by
  obtain ⟨v, h1, h2⟩ := h
  exact (cat_new _ _ 0 v ns g w h1 l hl).mono fun e w' ⟨v', e1, e2, e3⟩ => ⟨e1, At.of h1 h2 e2 e3⟩
theorem At.alt (h : At W ns g w) (l : List Int) (hl : l.length ≤ 1000) : Calls Try.prog 14 #[.pointer (some ⟨W.heap.size, 0, none⟩), .slice (some ⟨w.heap.size, 0, none⟩) l.length l.length] (w.alloc (.cells (l.map (Value.int .i64)).toArray 3)) fun e w' => e = .returned (.int .i64 (altR ns g l).1) ∧ At W (altR ns g l).2 g w' := by
  obtain ⟨v, h1, h2⟩ := h
  exact (alt_new _ _ 0 v ns g w h1 l hl).mono fun e w' ⟨v', e1, e2, e3⟩ => ⟨e1, At.of h1 h2 e2 e3⟩
theorem At.alt0 (h : At W ns g w) : Calls Try.prog 14 #[.pointer (some ⟨W.heap.size, 0, none⟩), .slice none 0 0] w fun e w' => e = .returned (.int .i64 (altR ns g []).1) ∧ At W (altR ns g []).2 g w' := by
  obtain ⟨v, h1, h2⟩ := h
  exact (alt_any _ _ 0 v ns g none 0 0 0 [] w h1 rfl (Nat.le_refl _) (by omega) (Vals.none_ _ _ _) (Nat.zero_le _) (fun ad e => by cases e)).mono fun e w' ⟨v', e1, e2, e3⟩ => ⟨e1, At.of h1 h2 e2 e3⟩
theorem At.below {w' : World} (h : At W ns g w) (hb : Below w.heap.size w w') : At W ns g w' := by
  obtain ⟨v, h1, h2⟩ := h
  exact ⟨v, h1.keep hb, h2.trans (hb.mono h2.size)⟩
theorem At.low (h : At W ns g w) : Below W.heap.size W w := by obtain ⟨v, h1, h2⟩ := h; exact h2
theorem At.re (h : At W ns g w) (x : Nat) (hx : x < ns.length) (hr : rightN (ns.take (x + 1)) (g : Int) = false) :
    Calls Try.prog 13 #[.pointer (some ⟨W.heap.size, 0, none⟩), .int .i64 (x : Int)] w fun e w' => e = .returned (.tuple #[.agg #[.slice none 0 0, .int .i64 0], .bool false]) ∧ At W ns g w' := by
  obtain ⟨v, h1, h2⟩ := h
  exact (re_no _ _ 0 v ns g x w h1 hx hr).mono fun e w' ⟨e1, e2⟩ => ⟨e1, ⟨v, h1.keep e2, h2.trans (e2.mono h2.size)⟩⟩
end

section
variable {W w : World}
theorem full_no (n : Nod) : canPut (mostN 1000) 9 n = false := canPut_full (by rw [mostN_len]; exact Nat.le_refl _)
theorem full_empty (h : At W (mostN 1000) 9 w) : Calls Try.prog 12 #[.pointer (some ⟨W.heap.size, 0, none⟩)] w fun e w' => e = .returned (.int .i64 (-1)) ∧ At W (mostN 1000) 9 w' := by
  have := h.empty
  rw [putI_no (full_no _), putL_no (full_no _)] at this
  generalize mostN 1000 = L at *
  exact this
theorem full_open (h : At W (mostN 1000) 9 w) : Calls Try.prog 8 #[.pointer (some ⟨W.heap.size, 0, none⟩)] w fun e w' => e = .returned (.int .i64 (-1)) ∧ At W (mostN 1000) 9 w' := by
  have := h.open_
  rw [show openI 9 = -1 from rfl, show openG 9 = 9 from rfl] at this
  generalize mostN 1000 = L at *
  exact this
theorem full_cat2 (h : At W (mostN 1000) 9 w) : Calls Try.prog 11 #[.pointer (some ⟨W.heap.size, 0, none⟩), .slice (some ⟨w.heap.size, 0, none⟩) 2 2] (w.alloc (.cells #[.int .i64 998, .int .i64 999] 3)) fun e w' => e = .returned (.int .i64 (-1)) ∧ At W (mostN 1000) 9 w' := by
  have := h.cat [((998 : Nat) : Int), ((999 : Nat) : Int)] (by simp)
  rw [cat_full 998 999 (by decide)] at this
  generalize mostN 1000 = L at *
  exact this
theorem full_cat1 (h : At W (mostN 1000) 9 w) : Calls Try.prog 11 #[.pointer (some ⟨W.heap.size, 0, none⟩), .slice (some ⟨w.heap.size, 0, none⟩) 1 1] (w.alloc (.cells #[.int .i64 998] 3)) fun e w' => e = .returned (.int .i64 998) ∧ At W (mostN 1000) 9 w' := by
  have := h.cat [((998 : Nat) : Int)] (by simp)
  rw [cat_one 998 (by decide)] at this
  generalize mostN 1000 = L at *
  exact this
theorem full_cat1' {o : Obj} (h : At W (mostN 1000) 9 (w.alloc o)) : Calls Try.prog 11 #[.pointer (some ⟨W.heap.size, 0, none⟩), .slice (some ⟨w.heap.size + 1, 0, none⟩) 1 1] ((w.alloc o).alloc (.cells #[.int .i64 998] 3)) fun e w' => e = .returned (.int .i64 998) ∧ At W (mostN 1000) 9 w' := by
  have := full_cat1 h
  rw [sizeA'] at this
  generalize mostN 1000 = L at *
  exact this
theorem full_alt1 (h : At W (mostN 1000) 9 w) : Calls Try.prog 14 #[.pointer (some ⟨W.heap.size, 0, none⟩), .slice (some ⟨w.heap.size, 0, none⟩) 1 1] (w.alloc (.cells #[.int .i64 998] 3)) fun e w' => e = .returned (.int .i64 998) ∧ At W (mostN 1000) 9 w' := by
  have := h.alt [((998 : Nat) : Int)] (by simp)
  rw [alt_one 998 (by decide)] at this
  generalize mostN 1000 = L at *
  exact this
theorem full_cat0 (h : At W (mostN 1000) 9 w) : Calls Try.prog 11 #[.pointer (some ⟨W.heap.size, 0, none⟩), .slice (some ⟨w.heap.size, 0, none⟩) 1 1] (w.alloc (.cells #[.int .i64 1000] 3)) fun e w' => e = .returned (.int .i64 (-1)) ∧ At W (mostN 1000) 9 w' := by
  have := h.cat [((1000 : Nat) : Int)] (by simp)
  rw [cat_out] at this
  generalize mostN 1000 = L at *
  exact this
theorem full_alt0 (h : At W (mostN 1000) 9 w) : Calls Try.prog 14 #[.pointer (some ⟨W.heap.size, 0, none⟩), .slice none 0 0] w fun e w' => e = .returned (.int .i64 (-1)) ∧ At W (mostN 1000) 9 w' := by
  have := h.alt0
  rw [alt_none] at this
  generalize mostN 1000 = L at *
  exact this
theorem full_re (h : At W (mostN 1000) 9 w) : Calls Try.prog 13 #[.pointer (some ⟨W.heap.size, 0, none⟩), .int .i64 998] w fun e w' => e = .returned (.tuple #[.agg #[.slice none 0 0, .int .i64 0], .bool false]) ∧ At W (mostN 1000) 9 w' := by
  have := h.re 998 (by rw [mostN_len]; decide) (most_wrong _)
  generalize mostN 1000 = L at *
  exact this
end

set_option maxRecDepth 100000 in
set_option maxHeartbeats 2000000 in
theorem core (W : World) (z : Int) (hz : (Lit.int .u8 z).wf = true) :
    Calls Try.prog 4 #[.int .u8 z] W fun e W' => e = .returned (.bool true) ∧ Below W.heap.size W W' := by
  obtain ⟨z0, z1⟩ := bounds_u8 hz
  have hW := Lib.hid awake_any
  have hA0 := Lib.hid (show At W [] 0 (W.alloc (.cells #[.slice none 0 0, .int .i64 0] 28)) from ⟨_, bldr_new W, (Below.refl _ _).alloc (Nat.le_refl _) _⟩)
  clear hz
  go_enter Try.func4, Try.ntmps4
  go_wp2
  go_loopw [4] (fun i wr => ∃ k : Nat, k ≤ 9 ∧ i = .int .i64 (k : Nat) ∧ Hid (At W [] k wr)) (fun i _ => 9 - (intOf i).toNat)
  case atStart => exact ⟨0, by omega, rfl, hA0⟩
  case round =>
    obtain ⟨k, hk, rfl, hA⟩ := hrel
    by_cases hlt : k < 9
    · have hO := Lib.hid hA.out.open_
      rw [show openI k = (k : Int) + 1 by simp [openI, hlt], show openG k = k + 1 by simp [openG, hlt]] at hO
      go_wp2_with (go_at_call 8; refine (hO.out).mono ?_; rintro e w1 ⟨rfl, h1⟩; have hA1 := Lib.hid h1; clear h1)
      go_roundw
      case rel => exact ⟨k + 1, by omega, by go_num, hA1⟩
      case measure => simp [intOf]; omega
    · obtain rfl : k = 9 := by omega
      have hO := Lib.hid hA.out.bol
      have hcp : canPut [] 9 bolN = true := canPut_of (by decide) (fits_plain 7 (by decide) _ _)
      rw [putI_yes hcp, putL_yes hcp] at hO
      clear hA hcp
      go_wp2_with (go_at_call 9; refine (hO.out).mono ?_; rintro e w1 ⟨rfl, h1⟩; have hA1 := Lib.hid (show At W (mostN 1) 9 w1 from h1); clear h1)
      go_loopw [5, 6] (fun a i wr => ∃ k : Nat, 1 ≤ k ∧ k ≤ 1000 ∧ i = .int .i64 (k : Nat) ∧ a = .int .i64 ((2 * ((k - 1) / 2) : Nat) : Int) ∧ Hid (At W (mostN k) 9 wr)) (fun _ i _ => 1000 - (intOf i).toNat)
      case atStart => exact ⟨1, by omega, by omega, rfl, rfl, hA1⟩
      case round =>
        rename World => wr2
        obtain ⟨k, hk1, hk, rfl, rfl, hA⟩ := hrel
        by_cases hlt2 : k < 1000
        · by_cases hpar : k % 2 = 1
          · have hp : (k : Int) % 2 = 1 := by omega
            have hO := Lib.hid hA.out.set
            have hcp : canPut (mostN k) 9 (setN zset) = true := canPut_of (by rw [mostN_len]; omega) (fits_set _ _ _)
            rw [putI_yes hcp, putL_yes hcp, ← nodeAt_odd hpar, ← mostN_next, mostN_len] at hO
            clear hA hcp
            have ha : 2 * ((k - 1) / 2) = 2 * ((k + 1 - 1) / 2) := by omega
            replace ha := Lib.hid ha
            generalize 2 * ((k - 1) / 2) = a at *
            go_wp2_with (go_at_call 10; refine (hO.out).mono ?_; rintro e w1 ⟨rfl, h1⟩; have hA1 := Lib.hid h1; clear h1)
            go_roundw
            case rel => exact ⟨k + 1, by omega, by omega, by go_num, by rw [ha.out], hA1⟩
            case measure => simp [intOf]; omega
          · have hp : (k : Int) % 2 = 0 := by omega
            have hO := Lib.hid (hA.out.cat [((k - 2 : Nat) : Int), (k : Int) - 1] (by simp))
            rw [cat_even k (by omega) (by omega) hlt2] at hO
            clear hA
            have ha : 2 * ((k - 1) / 2) = k - 2 := by omega
            rw [ha]
            have hb : (k : Int) = ((2 * ((k + 1 - 1) / 2) : Nat) : Int) := by omega
            replace hb := Lib.hid hb
            generalize k - 2 = a at *
            clear ha
            go_wp2_with (go_at_call 11; refine (hO.out).mono ?_; rintro e w1 ⟨rfl, h1⟩; have hA1 := Lib.hid h1; clear h1)
            go_roundw
            case rel => exact ⟨k + 1, by omega, by omega, by go_num, by rw [← hb.out], hA1⟩
            case measure => simp [intOf]; omega
        · obtain rfl : k = 1000 := by omega
          have hEm := Lib.hid (fun w => full_empty (W := W) (w := w))
          have hOp := Lib.hid (fun w => full_open (W := W) (w := w))
          have hC2 := Lib.hid (fun w => full_cat2 (W := W) (w := w))
          have hRe := Lib.hid (fun w => full_re (W := W) (w := w))
          have hC1 := Lib.hid (fun w => full_cat1' (W := W) (w := w) (o := .cells #[.slice none 0 0, .int .i64 0] 24))
          have hL1 := Lib.hid (fun w => full_alt1 (W := W) (w := w))
          have hC0 := Lib.hid (fun w => full_cat0 (W := W) (w := w))
          have hL0 := Lib.hid (fun w => full_alt0 (W := W) (w := w))
          generalize mostN 1000 = L at *
          have e998 : 2 * ((1000 - 1) / 2) = 998 := by decide
          rw [e998]
          clear e998
          go_wp2
          simp only [show ((998 : Nat) : Int) = (998 : Int) from rfl, show ((1000 : Nat) : Int) = (1000 : Int) from rfl]
          go_loopw [7] (fun i wr => ∃ k : Nat, k ≤ 5 ∧ i = .int .i64 (k : Nat) ∧ Hid (At W L 9 wr)) (fun i _ => 6 - (intOf i).toNat)
          case atStart => exact ⟨0, by omega, rfl, hA⟩
          case round =>
            rename World => wr3
            clear hA
            obtain ⟨k, hk5, rfl, hA⟩ := hrel
            by_cases hc : (k : Int) ≤ z % 5
            · have hk4 : k ≤ 4 := by omega
              clear hRe hC1 hL1 hC0 hL0 hW
              go_wp2_with (first
                | (go_at_call 12; refine (hEm.out _ hA.out).mono ?_; rintro e w1 ⟨rfl, h1⟩; replace hA := Lib.hid h1; clear h1)
                | (go_at_call 11; refine (hC2.out _ hA.out).mono ?_; rintro e w2 ⟨rfl, h1⟩; replace hA := Lib.hid h1; clear h1)
                | (go_at_call 8; refine (hOp.out _ hA.out).mono ?_; rintro e w3 ⟨rfl, h1⟩; replace hA := Lib.hid h1; clear h1))
              go_roundw
              case rel => exact ⟨k + 1, by omega, by go_num, hA⟩
              case measure => simp [intOf]; omega
            · clear hEm hOp hC2
              go_wp2_with (first
                | (go_at_call 13; (with_reducible refine (hRe.out _ hA.out).mono ?_); rintro e w1 ⟨rfl, h1⟩; replace hA := Lib.hid (h1.below ((Below.refl w1.heap.size w1).alloc (Nat.le_refl _) (.cells #[.slice none 0 0, .int .i64 0] 24))); clear h1)
                | (go_at_call 11; (with_reducible refine (hC1.out _ hA.out).mono ?_); rintro e w2 ⟨rfl, h1⟩; replace hA := Lib.hid h1; clear h1)
                | (go_at_call 14; (with_reducible refine (hL1.out _ hA.out).mono ?_); rintro e w3 ⟨rfl, h1⟩; replace hA := Lib.hid h1; clear h1)
                | (go_at_call 14; (with_reducible refine (hL0.out _ hA.out).mono ?_); rintro e w4 ⟨rfl, h1⟩; replace hA := Lib.hid h1; clear h1)
                | (go_at_call 11; (with_reducible refine (hC0.out _ hA.out).mono ?_); rintro e w5 ⟨rfl, h1⟩; replace hA := Lib.hid h1; clear h1)
                | (go_at_call 5; refine (hW.out _).mono ?_; rintro e w6 ⟨rfl, h1⟩; replace hA := Lib.hid (hA.out.below h1); clear h1))
              go_ret
              exact ⟨rfl, hA.out.low⟩
theorem contract (H : Type) (enc : TypeId × Value → H) (W : World) (base : Nat) (args : Array Value) (ds gs : List (DataW H)) (before : List MemPlace)
    (hval : ∀ (j : Nat) t v, Try.f4.params[j]? = some t → args[j]? = some v → Value.okWide Try.prog W .any base t v)
    (hW : DataW.Whole enc Try.prog Try.f4.params.toList Rows.treeMostSpec.vars false W args.toList ds gs before) :
    Calls Try.prog 4 args W fun e W' => ∃ v, e = .returned v ∧ Rows.treeMostSpec.post enc Try.prog Try.f4 false true false false W args v W' := by
  have hW' := hW
  obtain ⟨p, q, hA, hV, rfl, hfz, hnd⟩ := hW
  rw [Try.params4] at hA hval
  obtain ⟨v0, vs0, d0, ds0, p0, q0, hargs, rfl, rfl, h0, r0⟩ := trodAll_cons hA
  obtain ⟨rfl, rfl, rfl⟩ := trodAll_nil r0
  obtain rfl : args = #[v0] := by cases args; simp_all
  obtain ⟨rfl, rfl⟩ := trodVars_none hV
  obtain ⟨a0, rfl, rfl, rfl, w0⟩ := open_int Try.underlying5 (hval 0 5 v0 rfl rfl) h0
  exact (core W a0 w0).mono fun e W' ⟨he, hb⟩ => ⟨_, he, law_post hW' rfl (by kernel_rfl) (by kernel_rfl) rfl hb⟩

theorem laid_met (os : Os) : laidMetH Try.prog Rows.treeMostRow.laid ((World.doorLaid Try.prog 4000 os).forCall (fun _ _ => 0) ⟨#[], #[.int .u8 0], []⟩).memory :=
  laidMetH_of_parts3 (fuel := 8) (laidMet_of_run' 8 (by kernel_rfl) (by kernel_rfl)) (by kernel_rfl) (by kernel_rfl)
theorem reads (os : Os) {H : Type} (enc : TypeId × Value → H) : ∃ places, DataW.whole enc Try.prog ((World.doorLaid Try.prog 4000 os).forCall (fun _ _ => 0) ⟨#[], #[.int .u8 0], []⟩).memory Try.f4.params.toList Rows.treeMostSpec.vars false #[Value.int .u8 0].toList 8 = some ([.lit (.int .u8 0)], [], places) :=
  ⟨[], by kernel_rfl⟩

set_option maxRecDepth 100000 in
theorem lifted (os : Os) (started : os.Started) (H : Type) (enc : TypeId × Value → H) (F : Stop.Interp) :
    ReturnsInHanded {} Try.checked os 4 .any ((OpenSpec.ofChange Rows.treeMostSpec).preRow enc Try.prog Try.f4 Rows.treeMostRow.domain false Rows.treeMostRow.laid) (((OpenSpec.ofChange Rows.treeMostSpec).at F).post enc Try.prog Try.f4 false true false false) := by
  obtain ⟨places, hx⟩ := reads os enc
  refine returnsInHanded_of_row (C := Try.checked) (s := (OpenSpec.ofChange Rows.treeMostSpec)) own started (by kernel_rfl) Try.func4
    (witness_row_at (enc := enc) (C := Try.checked) false (World.doorLaid Try.prog 4000 os) #[.int .u8 0] rfl (by kernel_rfl) (by kernel_rfl) (by kernel_rfl)
      (OpenSpec.preRow_of_cond 8 hx (by kernel_rfl) (fun k hk => by cases hk) (by kernel_rfl) (laid_met os))) ?_
  intro W base args ds gs before hval hW _ _ _ _ _ _
  exact contract H enc W base args ds gs before hval hW

theorem said : Rows.TreeMostSaid :=
  OpenClaim.holds_of_cond 4 Try.f4 rfl rfl rfl rfl rfl rfl rfl ⟨rfl, rfl, rfl, rfl, rfl⟩ rfl rfl rfl rfl rfl (by kernel_rfl) Try.func4 (by kernel_rfl)
    (of_decide_eq_true (by kernel_rfl)) (by unfold Func.isWrapper; first | (rw [if_pos (by decide +kernel)]; kernel_rfl) | (rw [if_neg (by decide +kernel)]; exact ⟨rfl, rfl⟩))
    (fun os started H enc _ F => by rw [OpenClaim.pre_eq_preRow]; exact lifted os started H enc F)

end Go.Proofs.Ytmcfbocdkhimmaa.Most
