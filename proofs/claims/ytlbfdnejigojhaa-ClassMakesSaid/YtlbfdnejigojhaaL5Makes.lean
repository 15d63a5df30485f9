/- ClassMakes. -/
import Derived.Test.YtlbfdnejigojhaaFrame
import Derived.Test.YtlbfdnejigojhaaClsM
import Derived.Test.YtlbfdnejigojhaaClsJ
import Derived.Test.YtlbfdnejigojhaaClsR
import Derived.Test.YtlbfdnejigojhaaClsO
import Derived.Deep.RegionHeld
set_option linter.unusedVariables false
set_option linter.unusedSimpArgs false
namespace Go.Proofs.Ytlbfdnejigojhaa.Makes
open Go.ChangeShapes Go.WideShapes Go.ChangeAt Go.RowKit
open Go.ChangeMaps (open_string shut_string)

def rngS (a b : Nat) : Nat → Bool := fun x => decide (a ≤ x) && decide (x ≤ b)
theorem rng_any (a b : Nat) (w : World) (ha : a < 256) (hb : b < 256) :
    Calls Try.prog 19 #[.int .u8 (a : Int), .int .u8 (b : Int)] w fun e w' => e = .returned (setV (rngS a b)) ∧ Below w.heap.size w w' := range_any a b w ha hb
def nmF (s : ByteArray) : Nat → Bool := fun x => (clsOf s.toList (x : Int)).getD false
theorem nm_any (s : ByteArray) (w : World) :
    Calls Try.prog 16 #[.string s] w fun e w' => e = .returned (.tuple #[setV (nmF s), .bool (clsOf s.toList 0).isSome]) ∧ Below w.heap.size w w' := named_any s w
theorem is_at (s : ByteArray) (k : Nat) (w : World) :
    Calls Try.prog 15 #[.string s, .int .u8 (k : Int)] w fun e w' => e = .returned (.tuple #[.bool (nmF s k), .bool (clsOf s.toList 0).isSome]) ∧ w = w' := by
  rw [cls_some s.toList 0 (k : Int)]
  exact refIs_any s (k : Int) w

theorem eql_vv (f g : Nat → Bool) (w : World) (h : alike f g) : (binOp .eql 24 (setV f) (setV g)).run Try.prog w = .ok (.bool true) w := by
  have := run_equalIn_set w f g
  unfold setV at this ⊢
  rw [sameS_of h] at this
  exact (run_eql_struct w _ _ _).trans (by rw [this]; rfl)

/-- What stands while the law's last statement runs. -/
def SM (W : World) (g : Nat) (l : List UInt8) (F G : Nat → Bool) (w : World) : Prop :=
  BoolsAt w W.heap.size (ofL l) ∧ BoolsAt w (W.heap.size + 1) F ∧ BoolsAt w (W.heap.size + 2) G ∧ SetAt w g G ∧ Below W.heap.size W w
theorem SM.below {W : World} {g : Nat} {l : List UInt8} {F G : Nat → Bool} {w w' : World} (h : SM W g l F G w) (hb : Below w.heap.size w w') : SM W g l F G w' :=
  ⟨h.1.below hb h.1.lt, h.2.1.below hb h.2.1.lt, h.2.2.1.below hb h.2.2.1.lt, h.2.2.2.1.below hb h.2.2.2.1.lt, h.2.2.2.2.trans (hb.mono h.2.2.2.2.size)⟩

def Rel1 (W : World) (l : List UInt8) (n : Nat) (i : Value) (wr : World) : Prop :=
  ∃ k : Nat, k ≤ n ∧ i = .int .i64 (k : Int) ∧ BoolsAt wr W.heap.size (ofL (l.take k)) ∧ BoolsAt wr (W.heap.size + 1) (fun _ => false) ∧ BoolsAt wr (W.heap.size + 2) (fun _ => false) ∧ Below W.heap.size W wr
theorem Rel1.mk {W : World} {l : List UInt8} {n : Nat} {i : Value} {wr : World} (h : ∃ k : Nat, k ≤ n ∧ i = .int .i64 (k : Int) ∧ BoolsAt wr W.heap.size (ofL (l.take k)) ∧ BoolsAt wr (W.heap.size + 1) (fun _ => false) ∧ BoolsAt wr (W.heap.size + 2) (fun _ => false) ∧ Below W.heap.size W wr) : Rel1 W l n i wr := h
def Rel2 (W : World) (O F G : Nat → Bool) (sb : Bool) (v i : Value) (wr : World) : Prop :=
  ∃ k : Nat, k ≤ 256 ∧ i = .int .i64 (k : Int) ∧ v = .bool (decide (0 < k) && sb) ∧ BoolsAt wr W.heap.size O ∧ BoolsAt wr (W.heap.size + 1) (upto F k) ∧ BoolsAt wr (W.heap.size + 2) (upto G k) ∧ Below W.heap.size W wr
theorem Rel2.mk {W : World} {O F G : Nat → Bool} {sb : Bool} {v i : Value} {wr : World} (h : ∃ k : Nat, k ≤ 256 ∧ i = .int .i64 (k : Int) ∧ v = .bool (decide (0 < k) && sb) ∧ BoolsAt wr W.heap.size O ∧ BoolsAt wr (W.heap.size + 1) (upto F k) ∧ BoolsAt wr (W.heap.size + 2) (upto G k) ∧ Below W.heap.size W wr) : Rel2 W O F G sb v i wr := h

set_option maxRecDepth 100000 in
set_option maxHeartbeats 8000000 in
theorem core (W : World) (A : Option Addr) (n c : Nat) (l : List UInt8) (hn : n = l.length) (hnc : n ≤ c) (hm : c ≤ maxLen) (h : Byt W W.heap.size A l) (za : Int) (hza : (Lit.int .u8 za).wf = true) (zb : Int) (hzb : (Lit.int .u8 zb).wf = true) (s : ByteArray) (hs : s.size ≤ maxLen) :
    Calls Try.prog 4 #[.slice A n c, .int .u8 za, .int .u8 zb, .string s] W fun e W' => e = .returned (.bool true) ∧ Below W.heap.size W W' := by
  obtain ⟨za0, za1⟩ := bounds_u8 hza
  obtain ⟨a, rfl⟩ := Int.eq_ofNat_of_zero_le za0
  obtain ⟨zb0, zb1⟩ := bounds_u8 hzb
  obtain ⟨b, rfl⟩ := Int.eq_ofNat_of_zero_le zb0
  have ha : a < 256 := by omega
  have hb : b < 256 := by omega
  have hW := Lib.hid awake_any
  clear hza hzb za0 za1 zb0 zb1
  by_cases hbig : n ≤ 300
  · by_cases hbs : s.size ≤ 20
    · have hn' := Lib.hid hn
      have hm' := Lib.hid hm
      have hh := Lib.hid h
      have hIs := Lib.hid (is_at s)
      have hNm := Lib.hid (nm_any s)
      have hRg := Lib.hid (fun w => rng_any a b w ha hb)
      have hz := zero_bools
      have hFk : ∀ k, rngS a b k = (decide (a ≤ k) && decide (k ≤ b)) := fun k => rfl
      generalize hsb : (clsOf s.toList 0).isSome = sb at *
      clear hsb
      generalize hF : rngS a b = F at *
      generalize hG : nmF s = G at *
      replace hFk := Lib.hid hFk
      clear hF hG hn hm h hs
      go_enter Try.func4, Try.ntmps4
      go_wp2
      go_loopw [12] (Rel1 W l n) (fun i _ => n - (intOf i).toNat)
      case atStart => exact Rel1.mk ⟨0, by omega, rfl, ((bools_new W _).alloc _).alloc _, (bools_zero_at _ _ (by simp)).alloc _, bools_zero_at _ _ (by simp), (((Below.refl _ _).alloc (Nat.le_refl _) _).alloc (by simp) _).alloc (by simp; omega) _⟩
      case round =>
        obtain ⟨k, hk, rfl, hO, hR, hN, hbw⟩ := hrel
        by_cases hlt : k < n
        · have hkl : k < l.length := by have := hn'.out; omega
          obtain ⟨ad, hA, hadB, hd⟩ := (hh.out.below hbw).at_ hkl
          subst hA
          have hx : (l[k]'hkl).toNat < 256 := UInt8.toNat_lt _
          have hO' := hO.store hx true
          rw [putB_of l k hkl] at hO'
          generalize (l[k]'hkl).toNat = x at *
          have c0 := hO.cell hx
          have f0 := hO.thawed x
          have x0 : (0 : Int) ≤ (x : Int) := by omega
          have x1 : (x : Int) < 256 := by omega
          replace hO' := Lib.hid hO'
          have hR' := Lib.hid (hR.set_other (a := ⟨W.heap.size, x, none⟩) (v := .bool true) (by show W.heap.size + 1 ≠ W.heap.size; omega))
          have hN' := Lib.hid (hN.set_other (a := ⟨W.heap.size, x, none⟩) (v := .bool true) (by show W.heap.size + 2 ≠ W.heap.size; omega))
          have hb' := Lib.hid (hbw.setCell (p := ⟨W.heap.size, x, none⟩) (Nat.le_refl _) (.bool true))
          clear hO hR hN hbw hkl hx
          go_wp2
          go_roundw
          case rel => exact Rel1.mk ⟨k + 1, by omega, by go_num, hO'.out, hR'.out, hN'.out, hb'.out⟩
          case measure => simp [intOf]; omega
        · have e : l.take k = l := List.take_of_length_le (by have := hn'.out; omega)
          rw [e] at hO
          have hO' := Lib.hid hO
          have hR' := Lib.hid hR
          have hN' := Lib.hid hN
          have hb' := Lib.hid hbw
          clear e hO hR hN hbw
          go_wp2
          go_loopw [13, 14] (Rel2 W (ofL l) F G sb) (fun _ i _ => 256 - (intOf i).toNat)
          case atStart => exact Rel2.mk ⟨0, by omega, rfl, rfl, hO'.out, by rw [upto_zero]; exact hR'.out, by rw [upto_zero]; exact hN'.out, hb'.out⟩
          case round =>
            clear hO' hR' hN' hb'
            obtain ⟨k2, hk2, rfl, rfl, hO, hR, hN, hbw⟩ := hrel
            rename World => w2
            by_cases hlt2 : k2 < 256
            · have hR1 := hR.store hlt2 (F k2)
              rw [upto_next] at hR1
              have hN1 := hN.set_other (a := ⟨W.heap.size + 1, k2, none⟩) (v := .bool (F k2)) (by show W.heap.size + 2 ≠ W.heap.size + 1; omega)
              have hO1 := hO.set_other (a := ⟨W.heap.size + 1, k2, none⟩) (v := .bool (F k2)) (by show W.heap.size ≠ W.heap.size + 1; omega)
              have hb1 := hbw.setCell (p := ⟨W.heap.size + 1, k2, none⟩) (by show W.heap.size ≤ W.heap.size + 1; omega) (.bool (F k2))
              have c2 := hN1.cell hlt2
              have f2 := hN1.thawed k2
              have hN2 := hN1.store hlt2 (G k2)
              rw [upto_next] at hN2
              have hR2 := hR1.set_other (a := ⟨W.heap.size + 2, k2, none⟩) (v := .bool (G k2)) (by show W.heap.size + 1 ≠ W.heap.size + 2; omega)
              have hO2 := hO1.set_other (a := ⟨W.heap.size + 2, k2, none⟩) (v := .bool (G k2)) (by show W.heap.size ≠ W.heap.size + 2; omega)
              have hb2 := hb1.setCell (p := ⟨W.heap.size + 2, k2, none⟩) (by show W.heap.size ≤ W.heap.size + 2; omega) (.bool (G k2))
              have c1 := hR.cell hlt2
              have f1 := hR.thawed k2
              have k0 : (0 : Int) ≤ (k2 : Int) := by omega
              have k1 : (k2 : Int) < 256 := by omega
              have k3 : IntKind.u8.wrap (k2 : Int) = (k2 : Int) := IntWalk.u8_in _ (by omega)
              have k4 : (k2 : Int) % 256 = (k2 : Int) := by omega
              have hIk := Lib.hid (hIs.out k2)
              clear hR1 hN1 hO1 hb1 hO hR hN hbw
              by_cases h1 : a ≤ k2
              · obtain ⟨q, hq⟩ : ∃ q, decide (k2 ≤ b) = q := ⟨_, rfl⟩
                have g1 : decide (a ≤ k2) = true := decide_eq_true h1
                have hFv : F k2 = q := by rw [hFk.out, g1, hq]; rfl
                clear h1
                rw [hFv] at hN2 hR2 hO2 hb2 c2 f2
                replace hN2 := Lib.hid hN2
                replace hR2 := Lib.hid hR2
                replace hO2 := Lib.hid hO2
                replace hb2 := Lib.hid hb2
                clear hFv
                generalize G k2 = gb at *
                generalize upto G k2 k2 = gb2 at *
                generalize upto F k2 k2 = gb3 at *
                go_wp2_with (go_at_call 15; refine (hIk.out _).mono ?_; rintro e w' ⟨rfl, rfl⟩)
                clear k4
                go_roundw
                case rel => exact Rel2.mk ⟨k2 + 1, by omega, by go_num, by simp, hO2.out, hR2.out, hN2.out, hb2.out⟩
                case measure => simp [intOf]; omega
              · have g1 : decide (a ≤ k2) = false := decide_eq_false h1
                have hFv : F k2 = false := by rw [hFk.out, g1]; rfl
                clear h1
                rw [hFv] at hN2 hR2 hO2 hb2 c2 f2
                replace hN2 := Lib.hid hN2
                replace hR2 := Lib.hid hR2
                replace hO2 := Lib.hid hO2
                replace hb2 := Lib.hid hb2
                clear hFv
                generalize G k2 = gb at *
                generalize upto G k2 k2 = gb2 at *
                generalize upto F k2 k2 = gb3 at *
                go_wp2_with (go_at_call 15; refine (hIk.out _).mono ?_; rintro e w' ⟨rfl, rfl⟩)
                clear k4
                go_roundw
                case rel => exact Rel2.mk ⟨k2 + 1, by omega, by go_num, by simp, hO2.out, hR2.out, hN2.out, hb2.out⟩
                case measure => simp [intOf]; omega
            · obtain rfl : k2 = 256 := by omega
              rw [show (decide (0 < 256) && sb) = sb by simp]
              have hO' := Lib.hid hO
              have hR' := Lib.hid (hR.alike (upto_end F))
              have hN' := Lib.hid (hN.alike (upto_end G))
              have hb' := Lib.hid hbw
              clear hO hR hN hbw
              go_wp2_with (first
                | (go_at_call 16; refine (hNm.out _).mono ?_; rintro e w3 ⟨rfl, hb3⟩)
                | (refine wpList_store_row rfl 24 (.tmp 15) (.tmp 65) rfl w3.heap.size (setC G) rfl rfl 24 _ (set_zero w3) (set_size _) (set_hold (fun _ => false) G |> fun h => by rw [← h, setC_none]) (set_cells _) ?_))
              rw [World.setRow_alloc_new]
              have hO1 := (hO'.out.below hb3 hO'.out.lt).alloc (.cells (setC G) 24)
              have hR1 := (hR'.out.below hb3 hR'.out.lt).alloc (.cells (setC G) 24)
              have hN1 := (hN'.out.below hb3 hN'.out.lt).alloc (.cells (setC G) 24)
              have hS1 := set_new w3 G
              have hbW : Below W.heap.size W (w3.alloc (.cells (setC G) 24)) := (hb'.out.trans (hb3.mono hb'.out.size)).alloc ((hb'.out.trans (hb3.mono hb'.out.size)).size) _
              generalize hg : w3.heap.size = g at *
              generalize w3.alloc (.cells (setC G) 24) = w4 at *
              clear hg hb3 hO' hR' hN' hb' hz
              have hS0 := Lib.hid (show SM W g l F G w4.drew from ⟨hO1, hR1, hN1, hS1, hbW.drew⟩)
              clear hO1 hR1 hN1 hS1 hbW
              have hu := Try.underlying32
              have hi1 := bools_info (ofL l)
              have hi2 := bools_info F
              have hi3 := bools_info G
              have hEs : ∀ f w, (binOp .eql 24 (setV f) (setV f)).run Try.prog w = .ok (.bool true) w := fun f w => eql_vv f f w (fun _ _ => rfl)
              have hGs : ∀ f x y w, (eqGuard .eql 24 x y (setV f) (setV f)).run Try.prog w = .ok () w := fun f x y w => run_eqGuard_agg w .eql _ x y _ _ guard_set
              have hEl : ∀ w, (binOp .eql 24 (.agg #[.int .u64 (wd G 0 : Nat), .int .u64 (wd G 1 : Nat), .int .u64 (wd G 2 : Nat), .int .u64 (wd G 3 : Nat)]) (setV G)).run Try.prog w = .ok (.bool true) w := fun w => eql_vv G G w (fun _ _ => rfl)
              have hGl : ∀ x y w, (eqGuard .eql 24 x y (.agg #[.int .u64 (wd G 0 : Nat), .int .u64 (wd G 1 : Nat), .int .u64 (wd G 2 : Nat), .int .u64 (wd G 3 : Nat)]) (setV G)).run Try.prog w = .ok () w := fun x y w => run_eqGuard_agg w .eql _ x y _ _ guard_set
              have hF1 := Lib.hid (fun w => refOf_any (ofL l) w)
              have hF2 := Lib.hid (fun w => refOf_any F w)
              have hF3 := Lib.hid (fun w => refOf_any G w)
              refine wp_region_held_drew (S := SM W g l F G) (by kernel_rfl) hS0.out (fun hS => ?_)
              refine wpAnyH_take (i := 0) (v := ?_) rfl (by kernel_rfl) (by kernel_rfl) (by kernel_rfl) (fun _ _ _ h => h) (Or.inl ⟨by rfl, ?_⟩) hS ?_
              rotate_left
              · (intro w _; go_simp; try with_reducible rfl)
              (try simp only [Act.put, List.getElem_toArray, List.getElem_cons_zero, List.getElem_cons_succ, List.setIfInBounds_toArray, List.set_cons_zero, List.set_cons_succ])
              refine wpAnyH_take (i := 2) (v := _) rfl (by kernel_rfl) (by kernel_rfl) (by kernel_rfl) (fun _ _ _ h => h) (yieldsIf_load_mid (by rfl) _ _ rfl (W.heap.size) 0 rfl (boolsL (ofL l)) _ (fun _ h => h.1.range) hu rfl (bools_info _)) hS ?_
              (try simp only [Act.put, List.getElem_toArray, List.getElem_cons_zero, List.getElem_cons_succ, List.setIfInBounds_toArray, List.set_cons_zero, List.set_cons_succ])
              refine wpAnyH_ready (rs := [1]) (by kernel_rfl) (by simp) ?_
              refine AllReadyH.cons rfl (fun K hK => ?_) AllReadyH.nil
              go_simp
              refine (of_any A n c l W.heap.size _ hn'.out hnc hm'.out hS.2.2.2.2.size (hh.out.below hS.2.2.2.2)).mono ?_
              rintro e w5 ⟨rfl, hb5⟩
              go_simp
              refine hK.out _ _ (hS.below hb5) (fun _ => ?_)
              clear hK K
              replace hS := hS.below hb5
              (try simp only [Act.put, List.getElem_toArray, List.getElem_cons_zero, List.getElem_cons_succ, List.setIfInBounds_toArray, List.set_cons_zero, List.set_cons_succ])
              refine wpAnyH_ready (rs := [3]) (by kernel_rfl) (by simp) ?_
              refine AllReadyH.cons rfl (fun K hK => ?_) AllReadyH.nil
              go_simp
              refine (hF1.out _).mono ?_
              rintro e w5 ⟨rfl, hb5⟩
              go_simp
              refine hK.out _ _ (hS.below hb5) (fun _ => ?_)
              clear hK K
              replace hS := hS.below hb5
              (try simp only [Act.put, List.getElem_toArray, List.getElem_cons_zero, List.getElem_cons_succ, List.setIfInBounds_toArray, List.set_cons_zero, List.set_cons_succ])
              refine wpAnyH_take (i := 4) (v := ?_) rfl (by kernel_rfl) (by kernel_rfl) (by kernel_rfl) (fun _ _ _ h => h) (Or.inl ⟨by rfl, ?_⟩) hS ?_
              rotate_left
              · (intro w _; go_simp; try with_reducible rfl)
              (try simp only [Act.put, List.getElem_toArray, List.getElem_cons_zero, List.getElem_cons_succ, List.setIfInBounds_toArray, List.set_cons_zero, List.set_cons_succ])
              refine wpAnyH_take (i := 5) (v := ?_) rfl (by kernel_rfl) (by kernel_rfl) (by kernel_rfl) (fun _ _ _ h => h) (Or.inl ⟨by rfl, ?_⟩) hS ?_
              rotate_left
              · (intro w _; go_simp; try with_reducible rfl)
              (try simp only [Act.put, List.getElem_toArray, List.getElem_cons_zero, List.getElem_cons_succ, List.setIfInBounds_toArray, List.set_cons_zero, List.set_cons_succ])
              refine wpAnyH_take (i := 6) (v := ?_) rfl (by kernel_rfl) (by kernel_rfl) (by kernel_rfl) (fun _ _ _ h => h) (Or.inl ⟨by rfl, ?_⟩) hS ?_
              rotate_left
              · (intro w _; go_simp; try with_reducible rfl)
              (try simp only [Act.put, List.getElem_toArray, List.getElem_cons_zero, List.getElem_cons_succ, List.setIfInBounds_toArray, List.set_cons_zero, List.set_cons_succ])
              refine wpAnyH_take (i := 7) (v := ?_) rfl (by kernel_rfl) (by kernel_rfl) (by kernel_rfl) (fun _ _ _ h => h) (Or.inl ⟨by rfl, ?_⟩) hS ?_
              rotate_left
              · (intro w _; go_simp; try with_reducible rfl)
              (try simp only [Act.put, List.getElem_toArray, List.getElem_cons_zero, List.getElem_cons_succ, List.setIfInBounds_toArray, List.set_cons_zero, List.set_cons_succ])
              refine wpAnyH_take (i := 9) (v := _) rfl (by kernel_rfl) (by kernel_rfl) (by kernel_rfl) (fun _ _ _ h => h) (yieldsIf_load_mid (by rfl) _ _ rfl (W.heap.size + 1) 0 rfl (boolsL (F)) _ (fun _ h => h.2.1.range) hu rfl (bools_info _)) hS ?_
              (try simp only [Act.put, List.getElem_toArray, List.getElem_cons_zero, List.getElem_cons_succ, List.setIfInBounds_toArray, List.set_cons_zero, List.set_cons_succ])
              refine wpAnyH_ready (rs := [8]) (by kernel_rfl) (by simp) ?_
              refine AllReadyH.cons rfl (fun K hK => ?_) AllReadyH.nil
              go_simp
              refine (hRg.out _).mono ?_
              rintro e w5 ⟨rfl, hb5⟩
              go_simp
              refine hK.out _ _ (hS.below hb5) (fun _ => ?_)
              clear hK K
              replace hS := hS.below hb5
              (try simp only [Act.put, List.getElem_toArray, List.getElem_cons_zero, List.getElem_cons_succ, List.setIfInBounds_toArray, List.set_cons_zero, List.set_cons_succ])
              refine wpAnyH_ready (rs := [10]) (by kernel_rfl) (by simp) ?_
              refine AllReadyH.cons rfl (fun K hK => ?_) AllReadyH.nil
              go_simp
              refine (hF2.out _).mono ?_
              rintro e w5 ⟨rfl, hb5⟩
              go_simp
              refine hK.out _ _ (hS.below hb5) (fun _ => ?_)
              clear hK K
              replace hS := hS.below hb5
              (try simp only [Act.put, List.getElem_toArray, List.getElem_cons_zero, List.getElem_cons_succ, List.setIfInBounds_toArray, List.set_cons_zero, List.set_cons_succ])
              refine wpAnyH_take (i := 11) (v := ?_) rfl (by kernel_rfl) (by kernel_rfl) (by kernel_rfl) (fun _ _ _ h => h) (Or.inl ⟨by rfl, ?_⟩) hS ?_
              rotate_left
              · (intro w _; go_simp; try with_reducible rfl)
              (try simp only [Act.put, List.getElem_toArray, List.getElem_cons_zero, List.getElem_cons_succ, List.setIfInBounds_toArray, List.set_cons_zero, List.set_cons_succ])
              refine wpAnyH_take (i := 12) (v := ?_) rfl (by kernel_rfl) (by kernel_rfl) (by kernel_rfl) (fun _ _ _ h => h) (Or.inl ⟨by rfl, ?_⟩) hS ?_
              rotate_left
              · (intro w _; go_simp; try with_reducible rfl)
              (try simp only [Act.put, List.getElem_toArray, List.getElem_cons_zero, List.getElem_cons_succ, List.setIfInBounds_toArray, List.set_cons_zero, List.set_cons_succ])
              refine wpAnyH_take (i := 13) (v := ?_) rfl (by kernel_rfl) (by kernel_rfl) (by kernel_rfl) (fun _ _ _ h => h) (Or.inl ⟨by rfl, ?_⟩) hS ?_
              rotate_left
              · (intro w _; go_simp; try with_reducible rfl)
              (try simp only [Act.put, List.getElem_toArray, List.getElem_cons_zero, List.getElem_cons_succ, List.setIfInBounds_toArray, List.set_cons_zero, List.set_cons_succ])
              refine wpAnyH_take (i := 14) (v := setV G) rfl (by kernel_rfl) (by kernel_rfl) (by kernel_rfl) (fun _ _ _ h => h) (yieldsIf_load_mid (by rfl) _ _ rfl g 0 rfl (setC G).toList _ (fun _ h => h.2.2.2.1.range) Try.underlying24 rfl (set_size _)) hS ?_
              (try simp only [Act.put, List.getElem_toArray, List.getElem_cons_zero, List.getElem_cons_succ, List.setIfInBounds_toArray, List.set_cons_zero, List.set_cons_succ])
              refine wpAnyH_take (i := 15) (v := _) rfl (by kernel_rfl) (by kernel_rfl) (by kernel_rfl) (fun _ _ _ h => h) (yieldsIf_load_mid (by rfl) _ _ rfl (W.heap.size + 2) 0 rfl (boolsL (G)) _ (fun _ h => h.2.2.1.range) hu rfl (bools_info _)) hS ?_
              (try simp only [Act.put, List.getElem_toArray, List.getElem_cons_zero, List.getElem_cons_succ, List.setIfInBounds_toArray, List.set_cons_zero, List.set_cons_succ])
              refine wpAnyH_ready (rs := [16]) (by kernel_rfl) (by simp) ?_
              refine AllReadyH.cons rfl (fun K hK => ?_) AllReadyH.nil
              go_simp
              refine (hF3.out _).mono ?_
              rintro e w5 ⟨rfl, hb5⟩
              go_simp
              refine hK.out _ _ (hS.below hb5) (fun _ => ?_)
              clear hK K
              replace hS := hS.below hb5
              (try simp only [Act.put, List.getElem_toArray, List.getElem_cons_zero, List.getElem_cons_succ, List.setIfInBounds_toArray, List.set_cons_zero, List.set_cons_succ])
              refine wpAnyH_take (i := 17) (v := ?_) rfl (by kernel_rfl) (by kernel_rfl) (by kernel_rfl) (fun _ _ _ h => h) (Or.inl ⟨by rfl, ?_⟩) hS ?_
              rotate_left
              · (intro w _; go_simp; try with_reducible rfl)
              (try simp only [Act.put, List.getElem_toArray, List.getElem_cons_zero, List.getElem_cons_succ, List.setIfInBounds_toArray, List.set_cons_zero, List.set_cons_succ])
              refine wpAnyH_take (i := 18) (v := ?_) rfl (by kernel_rfl) (by kernel_rfl) (by kernel_rfl) (fun _ _ _ h => h) (Or.inl ⟨by rfl, ?_⟩) hS ?_
              rotate_left
              · (intro w _; go_simp; try with_reducible rfl)
              (try simp only [Act.put, List.getElem_toArray, List.getElem_cons_zero, List.getElem_cons_succ, List.setIfInBounds_toArray, List.set_cons_zero, List.set_cons_succ])
              refine wpAnyH_take (i := 19) (v := ?_) rfl (by kernel_rfl) (by kernel_rfl) (by kernel_rfl) (fun _ _ _ h => h) (Or.inl ⟨by rfl, ?_⟩) hS ?_
              rotate_left
              · (intro w _; go_simp; try with_reducible rfl)
              (try simp only [Act.put, List.getElem_toArray, List.getElem_cons_zero, List.getElem_cons_succ, List.setIfInBounds_toArray, List.set_cons_zero, List.set_cons_succ])
              refine wpAnyH_take (i := 20) (v := ?_) rfl (by kernel_rfl) (by kernel_rfl) (by kernel_rfl) (fun _ _ _ h => h) (Or.inl ⟨by rfl, ?_⟩) hS ?_
              rotate_left
              · (intro w _; go_simp; try with_reducible rfl)
              (try simp only [Act.put, List.getElem_toArray, List.getElem_cons_zero, List.getElem_cons_succ, List.setIfInBounds_toArray, List.set_cons_zero, List.set_cons_succ])
              refine wpAnyH_take (i := 21) (v := ?_) rfl (by kernel_rfl) (by kernel_rfl) (by kernel_rfl) (fun _ _ _ h => h) (Or.inl ⟨by rfl, ?_⟩) hS ?_
              rotate_left
              · (intro w _; go_simp; try with_reducible rfl)
              (try simp only [Act.put, List.getElem_toArray, List.getElem_cons_zero, List.getElem_cons_succ, List.setIfInBounds_toArray, List.set_cons_zero, List.set_cons_succ])
              refine wpAnyH_take (i := 22) (v := ?_) rfl (by kernel_rfl) (by kernel_rfl) (by kernel_rfl) (fun _ _ _ h => h) (Or.inl ⟨by rfl, ?_⟩) hS ?_
              rotate_left
              · (intro w _; go_simp; try with_reducible rfl)
              (try simp only [Act.put, List.getElem_toArray, List.getElem_cons_zero, List.getElem_cons_succ, List.setIfInBounds_toArray, List.set_cons_zero, List.set_cons_succ])
              refine wpAnyH_take (i := 23) (v := ?_) rfl (by kernel_rfl) (by kernel_rfl) (by kernel_rfl) (fun _ _ _ h => h) (Or.inl ⟨by rfl, ?_⟩) hS ?_
              rotate_left
              · (intro w _; go_simp; try with_reducible rfl)
              (try simp only [Act.put, List.getElem_toArray, List.getElem_cons_zero, List.getElem_cons_succ, List.setIfInBounds_toArray, List.set_cons_zero, List.set_cons_succ])
              refine wpAnyH_take (i := 24) (v := ?_) rfl (by kernel_rfl) (by kernel_rfl) (by kernel_rfl) (fun _ _ _ h => h) (Or.inl ⟨by rfl, ?_⟩) hS ?_
              rotate_left
              · (intro w _; go_simp; try with_reducible rfl)
              (try simp only [Act.put, List.getElem_toArray, List.getElem_cons_zero, List.getElem_cons_succ, List.setIfInBounds_toArray, List.set_cons_zero, List.set_cons_succ])
              refine wpAnyH_ready (rs := [25]) (by kernel_rfl) (by simp) ?_
              refine AllReadyH.cons rfl (fun K hK => ?_) AllReadyH.nil
              go_simp
              refine (hW.out _).mono ?_
              rintro e w5 ⟨rfl, hb5⟩
              go_simp
              refine hK.out _ _ (hS.below hb5) (fun _ => ?_)
              clear hK K
              replace hS := hS.below hb5
              (try simp only [Act.put, List.getElem_toArray, List.getElem_cons_zero, List.getElem_cons_succ, List.setIfInBounds_toArray, List.set_cons_zero, List.set_cons_succ])
              refine wpAnyH_take (i := 26) (v := ?_) rfl (by kernel_rfl) (by kernel_rfl) (by kernel_rfl) (fun _ _ _ h => h) (Or.inl ⟨by rfl, ?_⟩) hS ?_
              rotate_left
              · (intro w _; go_simp; try with_reducible rfl)
              (try simp only [Act.put, List.getElem_toArray, List.getElem_cons_zero, List.getElem_cons_succ, List.setIfInBounds_toArray, List.set_cons_zero, List.set_cons_succ])
              refine wpAnyH_take (i := 27) (v := ?_) rfl (by kernel_rfl) (by kernel_rfl) (by kernel_rfl) (fun _ _ _ h => h) (Or.inl ⟨by rfl, ?_⟩) hS ?_
              rotate_left
              · (intro w _; go_simp; try with_reducible rfl)
              (try simp only [Act.put, List.getElem_toArray, List.getElem_cons_zero, List.getElem_cons_succ, List.setIfInBounds_toArray, List.set_cons_zero, List.set_cons_succ])
              refine wpAnyH_done (by kernel_rfl) ?_ _
              go_wp2
              go_ret
              exact ⟨rfl, hS.2.2.2.2⟩
    · have hbs : 20 < s.size := by omega
      clear hn h
      go_enter Try.func4, Try.ntmps4
      go_wp2_with (first
        | (go_at_call 14; refine (hW.out _).mono ?_; rintro e w5 ⟨rfl, hb5⟩))
      go_ret
      exact ⟨rfl, hb5⟩
  · have hbig : 300 < n := by omega
    clear hn h
    go_enter Try.func4, Try.ntmps4
    go_wp2_with (first
      | (go_at_call 14; refine (hW.out _).mono ?_; rintro e w5 ⟨rfl, hb5⟩))
    go_ret
    exact ⟨rfl, hb5⟩
theorem contract (H : Type) (enc : TypeId × Value → H) (W : World) (base : Nat) (args : Array Value) (ds gs : List (DataW H)) (before : List MemPlace)
    (hval : ∀ (j : Nat) t v, Try.f4.params[j]? = some t → args[j]? = some v → Value.okWide Try.prog W .any base t v)
    (hW : DataW.Whole enc Try.prog Try.f4.params.toList Rows.classMakesSpec.vars false W args.toList ds gs before) :
    Calls Try.prog 4 args W fun e W' => ∃ v, e = .returned v ∧ Rows.classMakesSpec.post enc Try.prog Try.f4 false true false false W args v W' := by
  have hW' := hW
  obtain ⟨p, q, hA, hV, rfl, hfz, hnd⟩ := hW
  rw [Try.params4] at hA hval
  obtain ⟨v0, vs0, d0, ds0, p0, q0, hargs, rfl, rfl, h0, r0⟩ := trodAll_cons hA
  obtain ⟨v1, vs1, d1, ds1, p1, q1, rfl, rfl, rfl, h1, r1⟩ := trodAll_cons r0
  obtain ⟨v2, vs2, d2, ds2, p2, q2, rfl, rfl, rfl, h2, r2⟩ := trodAll_cons r1
  obtain ⟨v3, vs3, d3, ds3, p3, q3, rfl, rfl, rfl, h3, r3⟩ := trodAll_cons r2
  obtain ⟨rfl, rfl, rfl⟩ := trodAll_nil r3
  obtain rfl : args = #[v0, v1, v2, v3] := by cases args; simp_all
  obtain ⟨rfl, rfl⟩ := trodVars_none hV
  obtain ⟨A0, n0, c0, l0, rfl, e0, k0, m0, x0⟩ := open_byt Try.underlying25 Try.underlying5 (by kernel_rfl) (hval 0 25 v0 rfl rfl) h0
  obtain ⟨a1, rfl, rfl, rfl, w1⟩ := open_int Try.underlying5 (hval 1 5 v1 rfl rfl) h1
  obtain ⟨a2, rfl, rfl, rfl, w2⟩ := open_int Try.underlying5 (hval 2 5 v2 rfl rfl) h2
  obtain ⟨a3, rfl, rfl, rfl, w3⟩ := open_string Try.underlying9 (hval 3 9 v3 rfl rfl) h3
  exact (core W A0 n0 c0 l0 e0 k0 m0 x0 a1 w1 a2 w2 a3 w3).mono fun e W' ⟨he, hb⟩ => ⟨_, he, law_post hW' rfl (by kernel_rfl) (by kernel_rfl) rfl hb⟩

theorem laid_met (os : Os) : laidMetH Try.prog Rows.classMakesRow.laid ((World.doorLaid Try.prog 4000 os).forCall (fun _ _ => 0) ⟨#[], #[.slice none 0 0, .int .u8 0, .int .u8 0, .string ByteArray.empty], []⟩).memory :=
  laidMetH_of_parts3 (fuel := 8) (laidMet_of_run' 8 (by kernel_rfl) (by kernel_rfl)) (by kernel_rfl) (by kernel_rfl)
theorem reads (os : Os) {H : Type} (enc : TypeId × Value → H) : ∃ places, DataW.whole enc Try.prog ((World.doorLaid Try.prog 4000 os).forCall (fun _ _ => 0) ⟨#[], #[.slice none 0 0, .int .u8 0, .int .u8 0, .string ByteArray.empty], []⟩).memory Try.f4.params.toList Rows.classMakesSpec.vars false #[Value.slice none 0 0, .int .u8 0, .int .u8 0, .string ByteArray.empty].toList 8 = some ([.nil, .lit (.int .u8 0), .lit (.int .u8 0), .lit (.string [])], [], places) :=
  ⟨[], by kernel_rfl⟩

set_option maxRecDepth 100000 in
theorem lifted (os : Os) (started : os.Started) (H : Type) (enc : TypeId × Value → H) (F : Stop.Interp) :
    ReturnsInHanded {} Try.checked os 4 .any ((OpenSpec.ofChange Rows.classMakesSpec).preRow enc Try.prog Try.f4 Rows.classMakesRow.domain false Rows.classMakesRow.laid) (((OpenSpec.ofChange Rows.classMakesSpec).at F).post enc Try.prog Try.f4 false true false false) := by
  obtain ⟨places, hx⟩ := reads os enc
  refine returnsInHanded_of_row (C := Try.checked) (s := (OpenSpec.ofChange Rows.classMakesSpec)) own started (by kernel_rfl) Try.func4
    (witness_row_at (enc := enc) (C := Try.checked) false (World.doorLaid Try.prog 4000 os) #[.slice none 0 0, .int .u8 0, .int .u8 0, .string ByteArray.empty] rfl (by kernel_rfl) (by kernel_rfl) (by kernel_rfl)
      (OpenSpec.preRow_of_cond 8 hx (by kernel_rfl) (fun k hk => by cases hk) (by kernel_rfl) (laid_met os))) ?_
  intro W base args ds gs before hval hW _ _ _ _ _ _
  exact contract H enc W base args ds gs before hval hW

theorem said : Rows.ClassMakesSaid :=
  OpenClaim.holds_of_cond 4 Try.f4 rfl rfl rfl rfl rfl rfl rfl ⟨rfl, rfl, rfl, rfl, rfl⟩ rfl rfl rfl rfl rfl (by kernel_rfl) Try.func4 (by kernel_rfl)
    (of_decide_eq_true (by kernel_rfl)) (by unfold Func.isWrapper; first | (rw [if_pos (by decide +kernel)]; kernel_rfl) | (rw [if_neg (by decide +kernel)]; exact ⟨rfl, rfl⟩))
    (fun os started H enc _ F => by rw [OpenClaim.pre_eq_preRow]; exact lifted os started H enc F)

end Go.Proofs.Ytlbfdnejigojhaa.Makes
