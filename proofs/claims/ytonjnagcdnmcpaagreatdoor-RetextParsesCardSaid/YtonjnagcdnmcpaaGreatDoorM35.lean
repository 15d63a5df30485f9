/- Contracts and plain facts: M35. -/
import Derived.Test.YtonjnagcdnmcpaaGreatDoorM46
set_option linter.unusedVariables false
set_option linter.unusedSimpArgs false
set_option maxRecDepth 100000
set_option maxHeartbeats 32000000
namespace Go.Proofs.YtonjnagcdnmcpaaGreatDoor
open Go.RowKit
def rivR : Option (Int × Int × Nat) → Ending
 | none => .returned (.tuple #[.int .i64 0,.int .i64 0,.int .i64 0,.bool false])
 | some (lo,hi,k) => .returned (.tuple #[.int .i64 lo,.int .i64 hi,.int .i64 (k : Int),.bool true])
section
variable {w : World} {B T : Nat} {A : Option Addr} {n c : Nat} {l : List UInt8} {v : Value} {ns : List Nod} {g i : Nat} {cl : Nat → Bool} {e : Nat} (h : Rdr w B T A n c l v ns g i cl e)
include h
theorem rnum_at {a : Nat} {x y q : Int} (hs : numS l (a : Int) 255 = (x,y,q)) : Calls Tryz.prog 99 #[.slice A n c,.int .i64 (a : Int),.int .i64 255] w fun e w' => e = .returned (.tuple #[.int .i64 x,.int .i64 y,.int .i64 q]) ∧ w = w':=by
 have hI:=h.inp
 have:=refNum_any A c l n (a : Int) 255 w.heap.size w hI.1 hI.2.2.2.2.1 (Nat.le_trans hI.2.1 hI.2.2.1) (by decide)
 rw [hs] at this
 exact this
theorem rinterval_any {a : Nat} (ha : a ≤ n) : Calls Tryz.prog 78 #[.pointer (some ⟨T,0,none⟩),.int .i64 (a : Int)] w fun e w' => e = rivR (rivI l a) ∧ w = w':=by
 have hnl:=h.hn
 have hns : n ≤ 1000000:=h.txt.2.2.2.1
 have hnc : n ≤ c:=h.inp.2.1
 have c0:=h.c0
 unfold rivI
 cases hs : numS l (a : Int) 255 with
 | mk x q =>
  obtain ⟨y,e1⟩:=q
  have hN:=lhi (rnum_at h hs)
  by_cases he : e1 = 0
  · subst he
    obtain ⟨k,rfl,hk1,hk2,hx0,hx1⟩:=numS_ok hs
    simp only [ne_eq,not_true_eq_false,if_false,Int.toNat_natCast]
    have hki : (k : Int) ≤ 1000000:=by omega
    have hk0 : (0 : Int) ≤ (k : Int):=by omega
    by_cases hlt : k < n
    · obtain ⟨b,hx⟩ : ∃ b,l[k]? = some b:=⟨_,List.getElem?_eq_getElem (by omega)⟩
      obtain ⟨ad,rfl,hcell⟩:=h.byte hx
      have hkn : (k : Int) < (n : Int):=by omega
      rw [nx_some hx]
      by_cases hb : b = 44
      · subst hb
        replace hcell : w.cell? (ad.add k) = some (.int .u8 44):=hcell
        rw [if_neg (by decide)]
        obtain ⟨p,hp⟩ : ∃ p,p = k + 1:=⟨_,rfl⟩
        rw [← hp]
        have hw : IntKind.i64.wrap ((k : Int) + 1) = (p : Int):=by rw [IntWalk.i64_in _ (by omega)];omega
        have hwf : (k : Int) + 1 = (p : Int):=by omega
        replace hwf:=lhi hwf
        have hpn : p ≤ l.length:=by omega
        cases hs2 : numS l (p : Int) 255 with
        | mk x2 q2 =>
         obtain ⟨y2,e2⟩:=q2
         have hM:=lhi (rnum_at h hs2)
         simp only
         rcases numS_err hpn hs2 with rfl | rfl | rfl
         · obtain ⟨k2,rfl,hk4,hk5,hy0,hy1⟩:=numS_ok hs2
           rw [Int.toNat_natCast]
           by_cases hlx : x2 < x
           · rw [if_pos (.inr ⟨rfl,hlx⟩)]
             clear h hx hs hs2 hp hnl hk2 hk5 hpn
             unfold rivR
             go_enter Tryz.func78,Tryz.ntmps78
             go_wp2_with (first
              | (go_at_call 99;(with_reducible refine (hN.out).mono ?_);rintro e w1 ⟨rfl,rfl⟩)
              | (go_at_call 99;(with_reducible refine (hM.out).mono ?_);rintro e w1 ⟨rfl,rfl⟩))
             exact bodyPost_ret (results_tmp4 Tryz.results78 _ _ _) rfl ⟨rfl,rfl⟩
           · rw [if_neg (by omega),if_neg (by decide)]
             clear h hx hs hs2 hp hnl hk2 hk5 hpn
             unfold rivR
             go_enter Tryz.func78,Tryz.ntmps78
             go_wp2_with (first
              | (go_at_call 99;(with_reducible refine (hN.out).mono ?_);rintro e w1 ⟨rfl,rfl⟩)
              | (go_at_call 99;(with_reducible refine (hM.out).mono ?_);rintro e w1 ⟨rfl,rfl⟩))
             exact bodyPost_ret (results_tmp4 Tryz.results78 _ _ _) rfl ⟨rfl,rfl⟩
         · rw [if_pos (.inl rfl)]
           clear h hx hs hs2 hp hnl hk2 hpn
           unfold rivR
           go_enter Tryz.func78,Tryz.ntmps78
           go_wp2_with (first
            | (go_at_call 99;(with_reducible refine (hN.out).mono ?_);rintro e w1 ⟨rfl,rfl⟩)
            | (go_at_call 99;(with_reducible refine (hM.out).mono ?_);rintro e w1 ⟨rfl,rfl⟩))
           exact bodyPost_ret (results_tmp4 Tryz.results78 _ _ _) rfl ⟨rfl,rfl⟩
         · rw [if_neg (by omega),if_pos (by decide)]
           clear h hx hs hs2 hp hnl hk2 hpn
           unfold rivR
           go_enter Tryz.func78,Tryz.ntmps78
           go_wp2_with (first
            | (go_at_call 99;(with_reducible refine (hN.out).mono ?_);rintro e w1 ⟨rfl,rfl⟩)
            | (go_at_call 99;(with_reducible refine (hM.out).mono ?_);rintro e w1 ⟨rfl,rfl⟩))
           exact bodyPost_ret (results_tmp4 Tryz.results78 _ _ _) rfl ⟨rfl,rfl⟩
      · have hne : (b.toNat : Int) ≠ 44:=fun e => hb (UInt8.toNat_inj.1 (show b.toNat = 44 by omega))
        have hbn : ((b.toNat : Int) != 44) = true:=by rw [bne_iff_ne];exact hne
        rw [if_pos hne]
        clear hne
        clear h hx hs hnl hk2 hb
        unfold rivR
        go_enter Tryz.func78,Tryz.ntmps78
        go_wp2_with (first
         | (go_at_call 99;(with_reducible refine (hN.out).mono ?_);rintro e w1 ⟨rfl,rfl⟩))
        exact bodyPost_ret (results_tmp4 Tryz.results78 _ _ _) rfl ⟨rfl,rfl⟩
    · rw [nx_none (by omega),if_pos (by decide)]
      obtain rfl : k = n:=by omega
      clear h hs hnl hk2 hlt
      unfold rivR
      go_enter Tryz.func78,Tryz.ntmps78
      go_wp2_with (first
       | (go_at_call 99;(with_reducible refine (hN.out).mono ?_);rintro e w1 ⟨rfl,rfl⟩))
      exact bodyPost_ret (results_tmp4 Tryz.results78 _ _ _) rfl ⟨rfl,rfl⟩
  · simp only [ne_eq,he,not_false_eq_true,if_true]
    have heb : (e1 != 0) = true:=by rw [bne_iff_ne];exact he
    clear h hs hnl he
    unfold rivR
    go_enter Tryz.func78,Tryz.ntmps78
    go_wp2_with (first
     | (go_at_call 99;(with_reducible refine (hN.out).mono ?_);rintro e w1 ⟨rfl,rfl⟩))
    exact bodyPost_ret (results_tmp4 Tryz.results78 _ _ _) rfl ⟨rfl,rfl⟩
end
end Go.Proofs.YtonjnagcdnmcpaaGreatDoor
