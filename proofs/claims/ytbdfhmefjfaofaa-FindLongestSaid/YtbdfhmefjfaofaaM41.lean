/- Contracts and plain facts: M41. -/
import Derived.Test.YtbdfhmefjfaofaaM35
set_option linter.unusedVariables false
set_option linter.unusedSimpArgs false
set_option maxRecDepth 100000
set_option maxHeartbeats 32000000
namespace Go.Proofs.Ytbdfhmefjfaofaa
open Go.RowKit
def HRow (w : World) (A : Option Addr) (xs : List Spn) : Prop:=∀ j u,(hitsL xs)[j]? = some u → ∃ G,A = some ⟨G,0,none⟩ ∧ G < w.heap.size ∧ w.cell? ⟨G,j,none⟩ = some u
theorem HRow.keep {w w' : World} {A : Option Addr} {xs : List Spn} (h : HRow w A xs) (hb : Below w.heap.size w w') : HRow w' A xs:=fun j u hj => by
 obtain ⟨G,e,hG,hc⟩:=h j u hj
 exact ⟨G,e,nll hG hb.size,(hb.cell (p:=⟨G,j,none⟩) hG).trans hc⟩
theorem own_hrow {w : World} {base : Nat} {v : Value} {n : Nat} {xs : List Spn} (h : w.ownsRow base 31 20 v n (hitsL xs)) : ∃ A c,v = .slice A xs.length c ∧ n = xs.length ∧ HRow w A xs:=by
 have hn : n = xs.length:=by have:=h.1;rw [hitsL_len] at this;omega
 subst hn
 cases hx : xs.length with
 | zero =>
  have h0 : xs = []:=List.length_eq_zero_iff.1 hx
  subst h0
  rcases h.2 with ⟨rfl,_⟩ | ⟨g,cap,_,rfl,_⟩
  · exact ⟨_,_,rfl,rfl,fun j u hj => by simp [hitsL] at hj⟩
  · exact ⟨_,_,rfl,rfl,fun j u hj => by simp [hitsL] at hj⟩
 | succ m =>
  rw [hx] at h
  obtain ⟨G,c,rfl⟩:=ownsRow_succ h
  refine ⟨_,c,rfl,rfl,fun j u hj => ⟨G,rfl,(h.lt G rfl).2,?_⟩⟩
  have hjl : j < (hitsL xs).length:=(List.getElem?_eq_some_iff.1 hj).1
  rw [h.cellAt j (by rw [hitsL_len,hx] at hjl;exact hjl)]
  exact hj
theorem hitsL_part (xs : List Spn) : ∀ k (h : k < xs.length) j u,(hitL (xs[k]'h))[j]? = some u → (hitsL xs)[k * 20 + j]? = some u:=by
 induction xs with
 | nil => intro k h;exact absurd h (Nat.not_lt_zero k)
 | cons s r ih =>
  intro k h j u hj
  have e : hitsL (s :: r) = hitL s ++ hitsL r:=by simp [hitsL]
  have hl:=hitL_len s
  cases k with
  | zero =>
   have hjl : j < (hitL s).length:=(List.getElem?_eq_some_iff.1 hj).1
   rw [e,Nat.zero_mul,Nat.zero_add,List.getElem?_append_left (by omega)]
   exact hj
  | succ k =>
   have hk:=ih k (Nat.lt_of_succ_lt_succ h) j u hj
   rw [e,List.getElem?_append_right (by omega),hl,show (k + 1) * 20 + j - 20 = k * 20 + j by omega]
   exact hk
theorem rNone_any (w : World) : Calls Try.prog 25 #[] w fun e w' => e = .returned (hitV spNo) ∧ Below w.heap.size w w':=by
 go_enter Try.func25,Try.ntmps25
 go_wp2
 go_loopw [2] (fun i wr => ∃ k : Nat,k ≤ 10 ∧ i = .int .i64 (k : Int) ∧ Held wr w.heap.size 29 (hitC sp00) ∧ Held wr (w.heap.size + 1) 29 (hitC (spTo k)) ∧ Below w.heap.size w wr) (fun i _ => 10 - (intOf i).toNat)
 case atStart => exact ⟨0,by omega,rfl,(held_new w 29 (hitC sp00)).alloc _,held_new2 w _ 29 (hitC (spTo 0)),((Below.refl _ _).alloc (nlr _) _).alloc (by simp) _⟩
 case round =>
  obtain ⟨k,hk,rfl,h0,h1,hb⟩:=hrel
  by_cases hlt : k < 10
  · have ⟨c0,c1⟩:=span_there h1 hlt
    have t0:=h1.thawed (k * 2)
    have t1:=h1.thawed (k * 2 + 1)
    have h1':=lhi (h1.span hlt (-1,-1))
    have h0':=lhi ((h0.far (a:=⟨w.heap.size + 1,k * 2,none⟩) (by show w.heap.size ≠ w.heap.size + 1;omega) (.int .i64 (-1))).far (a:=⟨w.heap.size + 1,k * 2 + 1,none⟩) (by show w.heap.size ≠ w.heap.size + 1;omega) (.int .i64 (-1)))
    have hb':=lhi ((hb.setCell (p:=⟨w.heap.size + 1,k * 2,none⟩) (Nat.le_succ _) (.int .i64 (-1))).setCell (p:=⟨w.heap.size + 1,k * 2 + 1,none⟩) (Nat.le_succ _) (.int .i64 (-1)))
    rw [spTo_next] at h1'
    have k0 : (0 : Int) ≤ (k : Int):=by omega
    have k1 : (k : Int) < 10:=by omega
    clear h0 h1 hb
    go_wp2
    go_roundw
    case rel => exact ⟨k + 1,by omega,by go_num,h0'.out,h1'.out,hb'.out⟩
    case measure => simp [intOf];omega
  · obtain rfl : k = 10:=by omega
    rw [spTo_end] at h1
    have h0':=lhi h0
    have h1':=lhi h1
    have hb':=lhi hb
    clear h0 h1 hb
    go_wp2_with (first
     | (refine wpList_load_row rfl 29 (.tmp 1) rfl (w.heap.size + 1) rfl 29 _ (0,0) _ h1'.out Try.underlying29 rfl (by rw [hitC_size];exact size_ten) ?_)
     | (refine wpList_store_row rfl 29 (.tmp 0) (.tmp 10) rfl w.heap.size (hitC spNo) rfl rfl 29 _ h0'.out (by rw [hitC_size];exact size_ten) (by rw [hitC_size,hitC_size]) (hit_cells _) ?_))
    exact bodyPost_ret (v:=hitV spNo) (results_cell_row Try.results25 _ _ w.heap.size 29 (hitC spNo) (0,0) _ rfl (h0'.out.row _) Try.underlying29 rfl (by rw [hitC_size];exact size_ten)) rfl ⟨rfl,below_row hb'.out (nlr _) _⟩
def samI (t : List UInt8) (s : Int × Int) (p : Nat) : Int:=match backAt t s p with | some j => (j : Int) | none => -1
theorem samI_no {t : List UInt8} {s : Int × Int} {p : Nat} (h : backAt t s p = none) : samI t s p = -1:=by unfold samI;rw [h]
theorem samI_yes {t : List UInt8} {s : Int × Int} {p j : Nat} (h : backAt t s p = some j) : samI t s p = (j : Int):=by unfold samI;rw [h]
theorem rSame_any (A : Option Addr) (n c : Nat) (l : List UInt8) (B p : Nat) (x y : Int) (w : World) (hn : n = l.length) (hnc : n ≤ c) (hm : n ≤ 1000000) (h : Byt w B A l) (hB : B ≤ w.heap.size) (hp : p ≤ l.length) (hs : (x = -1 ∧ y = -1) ∨ (0 ≤ x ∧ x ≤ y ∧ y ≤ p)) :
    Calls Try.prog 41 #[.slice A n c,spnV (x,y),.int .i64 (p : Int)] w fun e w' => e = .returned (.int .i64 (samI l (x,y) p)) ∧ Below w.heap.size w w':=by
 have hs0:=lhi (held_new w 28 #[.int .i64 x,.int .i64 y])
 have hb0:=lhi ((Below.refl w.heap.size w).alloc (nlr _) (.cells #[.int .i64 x,.int .i64 y] 28))
 have ⟨z0,z1⟩:=held2 hs0.out
 show Calls Try.prog 41 #[.slice A n c,.agg #[.int .i64 x,.int .i64 y],.int .i64 (p : Int)] w _
 rcases hs with ⟨rfl,rfl⟩ | ⟨h0,h1,h2⟩
 · rw [samI_no (backAt_neg (by decide))]
   clear h hp
   go_enter Try.func41,Try.ntmps41
   go_wp2
   go_ret
   exact ⟨rfl,hb0.out⟩
 · obtain ⟨a,rfl⟩:=Int.eq_ofNat_of_zero_le h0
   obtain ⟨b,rfl⟩:=Int.eq_ofNat_of_zero_le (Int.le_trans h0 h1)
   have dx : decide ((a : Int) < 0) = false:=decide_eq_false (by omega)
   have hw1 : IntKind.i64.wrap ((b : Int) - (a : Int)) = (b : Int) - (a : Int):=IntWalk.i64_in _ (by omega)
   have hw2 : IntKind.i64.wrap ((n : Int) - (p : Int)) = (n : Int) - (p : Int):=IntWalk.i64_in _ (by omega)
   by_cases hf : (n : Int) - (p : Int) < (b : Int) - (a : Int)
   · rw [samI_no (backAt_far (show (l.length : Int) - (p : Int) < (b : Int) - (a : Int) by omega))]
     have dy : decide ((n : Int) - (p : Int) < (b : Int) - (a : Int)) = true:=decide_eq_true hf
     replace hf:=lhi hf
     clear h hp h0 h1 h2 hn
     go_enter Try.func41,Try.ntmps41
     go_wp2
     go_ret
     exact ⟨rfl,hb0.out⟩
   · have dy : decide ((n : Int) - (p : Int) < (b : Int) - (a : Int)) = false:=decide_eq_false hf
     have hw4 : IntKind.i64.wrap ((p : Int) + (b : Int)) = (p : Int) + (b : Int):=IntWalk.i64_in _ (by omega)
     have hw5 : IntKind.i64.wrap ((p : Int) + (b : Int) - (a : Int)) = (p : Int) + (b : Int) - (a : Int):=IntWalk.i64_in _ (by omega)
     have hyes:=lhi (fun (hk : ∀ k,k < b - a → l[a + k]? = l[p + k]?) => show samI l ((a : Int),(b : Int)) p = (p : Int) + (b : Int) - (a : Int) from by
      rw [samI_yes (backAt_yes (s:=((a : Int),(b : Int))) (by show (0 : Int) ≤ a;omega) (by show (b : Int) - (a : Int) ≤ (l.length : Int) - (p : Int);omega) fun k hk2 => hk k (by have : k < ((b : Int) - (a : Int)).toNat:=hk2;omega))]
      show ((p + ((b : Int) - (a : Int)).toNat : Nat) : Int) = _
      omega)
     have hno:=lhi (fun k (hk : k < b - a) (hne : l[a + k]? ≠ l[p + k]?) => samI_no (backAt_no (s:=((a : Int),(b : Int))) (i:=p) (k:=k) (by show k < ((b : Int) - (a : Int)).toNat;omega) hne))
     have hF:=lhi (show (a ≤ b ∧ b ≤ p ∧ p ≤ l.length) ∧ n = l.length ∧ p + (b - a) ≤ l.length ∧ n ≤ c ∧ n ≤ 1000000 ∧ B ≤ w.heap.size from by omega)
     generalize samI l ((a : Int),(b : Int)) p = r at *
     have hbr0:=lhi (Below.refl (w.heap.size + 1) (w.alloc (.cells #[.int .i64 (a : Int),.int .i64 (b : Int)] 28)))
     have hh:=lhi h
     clear h0 h1 h2 hf h hp hB hn hm hnc
     go_enter Try.func41,Try.ntmps41
     go_wp2
     generalize w.alloc (.cells #[.int .i64 (a : Int),.int .i64 (b : Int)] 28) = w1 at *
     clear z0 z1 dx dy
     go_loopw [7] (fun i wr => ∃ k : Nat,k ≤ b - a ∧ i = .int .i64 (k : Int) ∧ Hid (∀ j,j < k → l[a + j]? = l[p + j]?) ∧ Hid (Below (w.heap.size + 1) w1 wr)) (fun i _ => (b - a) - (intOf i).toNat)
     case atStart => exact ⟨0,Nat.zero_le _,rfl,lhi fun j hj => absurd hj (Nat.not_lt_zero _),hbr0⟩
     case round =>
      obtain ⟨k,hk,rfl,hall,hbr⟩:=hrel
      have ⟨z0,z1⟩:=held2 (hs0.out.below hbr.out (Nat.lt_succ_self _))
      have ⟨⟨f1,f2,f3⟩,f4,f5,f6,f7,f8⟩:=hF.out
      have hbw:=lhi (show Below w.heap.size w wr from hb0.out.trans (hbr.out.mono (Nat.le_succ _)))
      by_cases hlt : k < b - a
      · obtain ⟨ad,rfl,had,c1⟩:=(hh.out.below (hbw.out.mono f8)).at_ (show a + k < l.length by omega)
        obtain ⟨ad',he,_,c2⟩:=(hh.out.below (hbw.out.mono f8)).at_ (show p + k < l.length by omega)
        cases he
        have dk : decide ((k : Int) < (b : Int) - (a : Int)) = true:=decide_eq_true (by omega)
        have hw3 : IntKind.i64.wrap ((a : Int) + (k : Int)) = ((a + k : Nat) : Int):=by rw [Int.natCast_add];exact IntWalk.i64_in _ (by omega)
        have hw6 : IntKind.i64.wrap ((p : Int) + (k : Int)) = ((p + k : Nat) : Int):=by rw [Int.natCast_add];exact IntWalk.i64_in _ (by omega)
        have hw7 : IntKind.i64.wrap ((k : Int) + 1) = ((k + 1 : Nat) : Int):=by rw [Int.natCast_add];exact IntWalk.i64_in _ (by omega)
        have i1 : ((a + k : Nat) : Int) < (n : Int):=by omega
        have i2 : ((p + k : Nat) : Int) < (n : Int):=by omega
        have i3 : (0 : Int) ≤ ((a + k : Nat) : Int):=by omega
        have i4 : (0 : Int) ≤ ((p + k : Nat) : Int):=by omega
        have j1 : a + k < n:=by omega
        have j2 : p + k < n:=by omega
        by_cases he : l[a + k]'(by omega) = l[p + k]'(by omega)
        · rw [← he] at c2
          have hx:=lhi (show l[a + k]? = l[p + k]? by rw [List.getElem?_eq_getElem (by omega),List.getElem?_eq_getElem (by omega),he])
          have hn2:=lhi (fun j (hj : j < k + 1) => show l[a + j]? = l[p + j]? by
           rcases Nat.lt_or_ge j k with h | h
           · exact hall.out j h
           · obtain rfl : j = k:=by omega
             exact hx.out)
          have dz : ∀ v : Int,(v != v) = false:=fun v => by simp
          generalize ((l[a + k]'(by omega)).toNat : Int) = v at *
          replace hlt:=lhi hlt
          clear f1 f2 f3 f4 f5 f6 f7 f8 he hk
          go_wp2
          go_quiet (fail)
          go_wp2
          go_roundw
          case rel => exact ⟨k + 1,by have:=hlt.out;omega,rfl,hn2,by first | exact hbr | exact lhi (below_drewN hbr.out _) | exact lhi (hbr.out.drew)⟩
          case measure => simp [intOf];have:=hlt.out;omega
        · have hx:=lhi (hno.out k hlt (by rw [List.getElem?_eq_getElem (by omega),List.getElem?_eq_getElem (by omega)];exact fun e => he (Option.some.inj e)))
          have dz : (((l[a + k]'(by omega)).toNat : Int) != ((l[p + k]'(by omega)).toNat : Int)) = true:=by
           rw [bne_iff_ne];exact fun e => he (UInt8.toNat_inj.1 (by omega))
          generalize ((l[a + k]'(by omega)).toNat : Int) = v at *
          generalize ((l[p + k]'(by omega)).toNat : Int) = v2 at *
          replace hlt:=lhi hlt
          clear f1 f2 f3 f4 f5 f6 f7 f8 he hk
          go_wp2
          go_quiet (fail)
          go_wp2
          go_ret
          exact ⟨by rw [hx.out];rfl,by first | exact hbw.out | exact below_drewN hbw.out _⟩
      · obtain rfl : k = b - a:=by omega
        have hx:=lhi (hyes.out hall.out)
        have dk : decide ((((b - a : Nat)) : Int) < (b : Int) - (a : Int)) = false:=decide_eq_false (by omega)
        clear f1 f2 f3 f4 f5 f6 f7 f8 hlt hk
        go_wp2
        go_ret
        exact ⟨by rw [hx.out];rfl,hbw.out⟩
end Go.Proofs.Ytbdfhmefjfaofaa
