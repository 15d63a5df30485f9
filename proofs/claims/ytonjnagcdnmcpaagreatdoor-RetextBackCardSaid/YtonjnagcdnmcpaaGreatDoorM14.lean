/- Contracts and plain facts: M14. -/
import Derived.Test.YtonjnagcdnmcpaaGreatDoorM12
set_option linter.unusedVariables false
set_option linter.unusedSimpArgs false
set_option maxRecDepth 100000
set_option maxHeartbeats 32000000
namespace Go.Proofs.YtonjnagcdnmcpaaGreatDoor
open Go.RowKit
theorem valS_le (most : Int) : ∀ (l : List UInt8) (n x : Int),(∀ c ∈ l,cDigit c.toNat = true) → 0 ≤ n → (n ≤ most ∨ l ≠ []) → valS most l n = some x → 0 ≤ x ∧ x ≤ most
 | [],n,x,_,hn,hm,h => by
  simp only [valS,Option.some.injEq] at h
  rcases hm with hm | hm
  · omega
  · exact absurd rfl hm
 | c :: r,n,x,hd,hn,_,h => by
  have hb:=cDigit_bd (hd c (by simp))
  rw [valS] at h
  split at h
  · rename_i hle
    exact valS_le most r _ x (fun c hc => hd c (by simp [hc])) (by omega) (.inl hle) h
  · cases h
theorem numS_ok {l : List UInt8} {a : Nat} {most x y : Int} (h : numS l (a : Int) most = (x,y,0)) : ∃ k : Nat,y = (k : Int) ∧ a < k ∧ k ≤ l.length ∧ 0 ≤ x ∧ x ≤ most:=by
 unfold numS at h
 split at h
 · simp at h
 · rename_i h1
   rw [Int.toNat_natCast] at h
   split at h
   · simp at h
   · rename_i h2
     have hle:=dEnd_le (l:=l) (k:=a) (by omega)
     have hge:=dEnd_ge l a
     cases hv : valS most ((l.take (dEnd l a)).drop a) 0 with
     | none => rw [hv] at h;simp at h
     | some v =>
      rw [hv] at h
      simp only [Prod.mk.injEq,and_true] at h
      have:=valS_le most _ 0 v (dEnd_digits l a) (by omega) (.inr (by
       intro e
       have:=congrArg List.length e
       rw [List.length_drop,List.length_take] at this
       simp at this;omega)) hv
      exact ⟨dEnd l a,by omega,by omega,hle,by omega,by omega⟩
theorem numS_bad {l : List UInt8} {a most x y e : Int} (h : numS l a most = (x,y,e)) (he : e ≠ 0) : x = 0 ∧ y = 0:=by
 unfold numS at h
 split at h
 · simp only [Prod.mk.injEq] at h;omega
 · split at h
   · simp only [Prod.mk.injEq] at h;omega
   · split at h
     · simp only [Prod.mk.injEq] at h;omega
     · simp only [Prod.mk.injEq] at h;omega
theorem bg_tail {x : UInt8} {p l : List UInt8} {k : Nat} (h : bg (x :: p) (l.drop k) = true) : bg p (l.drop (k + 1)) = true:=by
 cases hd : l.drop k with
 | nil => rw [hd] at h;cases h
 | cons y r =>
  rw [hd,bg_cons] at h
  have : l.drop (k + 1) = r:=by
   have:=congrArg (List.drop 1) hd
   rwa [List.drop_drop] at this
  rw [this]
  simp only [Bool.and_eq_true] at h
  exact h.2
theorem bg_room {p l : List UInt8} {k : Nat} (h : bg p (l.drop k) = true) : p = [] ∨ k + p.length ≤ l.length:=by
 have:=bg_len h
 rw [List.length_drop] at this
 by_cases hp : p = []
 · exact .inl hp
 · exact .inr (by have : 0 < p.length:=List.length_pos_iff.2 hp
                  omega)
theorem drop_two {t : List UInt8} {i : Nat} {a b : UInt8} (h : bg [a,b] (t.drop i) = true) : ∃ r,t.drop i = a :: b :: r:=by
 cases hd : t.drop i with
 | nil => rw [hd] at h;cases h
 | cons x r =>
  cases r with
  | nil => rw [hd] at h;simp [bg_cons,bg_none] at h
  | cons y r =>
   rw [hd] at h
   simp only [bg_cons,bg_nil,Bool.and_true,Bool.and_eq_true,beq_iff_eq] at h
   exact ⟨r,by rw [h.1,h.2]⟩
theorem drop_at {t : List UInt8} {i : Nat} {c : UInt8} {r : List UInt8} (h : t.drop i = c :: r) : i < t.length ∧ t[i]? = some c ∧ t.drop (i + 1) = r:=by
 have h1:=congrArg List.length h
 rw [List.length_drop,List.length_cons] at h1
 have h2 : i < t.length:=by omega
 refine ⟨h2,?_,?_⟩
 · have:=congrArg (fun l : List UInt8 => l[0]?) h
   simp at this
   simpa [List.getElem?_eq_getElem h2] using this
 · have:=congrArg (List.drop 1) h
   rwa [List.drop_drop] at this
theorem u8_ne {c : UInt8} {k : UInt8} (h : c ≠ k) : ((c.toNat : Int) == (k.toNat : Int)) = false:=by
 rw [bef]
 intro e
 exact h (UInt8.toNat_inj.1 (by omega))
theorem readB_size {b : List UInt8} {k : Nat} {f : Nat → Bool} {j : Nat} (hk : k ≤ b.length) (h : readB b k = .ok (f,j)) : k + 1 ≤ j ∧ j ≤ b.length:=by
 cases hx : bg [94] (b.drop k) with
 | true =>
  rw [readB_not hx] at h
  have hr:=bg_room hx
  simp at hr
  cases hi : items true (b.drop (k + 1)) (k + 1) noneF with
  | error e => rw [hi] at h;cases h
  | ok p =>
   obtain ⟨f',j'⟩:=p
   rw [hi] at h
   simp only [Except.ok.injEq,Prod.mk.injEq] at h
   have:=items_size _ _ _ _ _ _ hi
   rw [List.length_drop] at this
   omega
 | false =>
  rw [readB_plain hx] at h
  have:=items_size _ _ _ _ _ _ h
  rw [List.length_drop] at this
  omega
theorem readB_wrong {b : List UInt8} {k e : Nat} (h : readB b k = .error e) : e = 3 ∨ e = 11 ∨ e = 12:=by
 cases hx : bg [94] (b.drop k) with
 | true =>
  rw [readB_not hx] at h
  cases hi : items true (b.drop (k + 1)) (k + 1) noneF with
  | error e' =>
   rw [hi] at h
   simp only [Except.error.injEq] at h
   subst h
   exact items_wrong _ _ _ _ _ hi
  | ok p => rw [hi] at h;cases h
 | false =>
  rw [readB_plain hx] at h
  exact items_wrong _ _ _ _ _ h
def nx (l : List UInt8) (j : Nat) : Int:=match l[j]? with
 | some x => (x.toNat : Int)
 | none => -1
theorem nx_some {l : List UInt8} {j : Nat} {x : UInt8} (h : l[j]? = some x) : nx l j = (x.toNat : Int):=by unfold nx;rw [h]
theorem nx_none {l : List UInt8} {j : Nat} (h : l.length ≤ j) : nx l j = -1:=by unfold nx;rw [List.getElem?_eq_none h]
theorem nx_drop (l : List UInt8) (i k : Nat) : nx l (i + k) = nx (l.drop i) k:=by unfold nx;rw [List.getElem?_drop]
theorem nx_zero (x : UInt8) (r : List UInt8) : nx (x :: r) 0 = (x.toNat : Int):=rfl
theorem nx_succ (x : UInt8) (r : List UInt8) (k : Nat) : nx (x :: r) (k + 1) = nx r k:=by unfold nx;rw [List.getElem?_cons_succ]
theorem nx_nil (k : Nat) : nx [] k = -1:=rfl
theorem nx_eq (r : List UInt8) (c : UInt8) : (nx r 0 = (c.toNat : Int)) = (bg [c] r = true):=by
 cases r with
 | nil => rw [nx_nil,bg_none];simp
 | cons x r =>
  rw [nx_zero,bg_cons,bg_nil,Bool.and_true,beq_iff_eq]
  exact propext ⟨fun h => UInt8.toNat_inj.1 (by omega),fun h => by rw [h]⟩
theorem bg1 {x y : UInt8} {r : List UInt8} (h : bg [x] (y :: r) = false) : y ≠ x:=by
 rw [bg_cons,bg_nil,Bool.and_true,bef] at h
 exact fun e => h e.symm
def escE (i : Nat) : List UInt8 → Am
 | [] => .bad 10
 | c :: _ => if c = 110 then .nod (i + 2) (setN (ofL [10])) else if 49 ≤ c ∧ c ≤ 57 then .bak (c.toNat - 48) else if isAl c then .bad 10 else .nod (i + 2) (setN (ofL [c]))
theorem escA_esc (i : Nat) {r : List UInt8} (h40 : bg [40] r = false) (h41 : bg [41] r = false) (h123 : bg [123] r = false) : escA i r = escE i r:=by
 cases r with
 | nil => rfl
 | cons x r =>
  simp only [escA,escE]
  rw [if_neg (bg1 h40),if_neg (bg1 h41),if_neg (bg1 h123)]
def ivG (k : Nat) (en b : List UInt8) : Option (Int × Int × Nat) :=
 if (numS b (k : Int) 255).2.2 ≠ 0 then none else
 if bg (44 :: en) (b.drop (numS b (k : Int) 255).2.1.toNat) then some ((numS b (k : Int) 255).1,-1,(numS b (k : Int) 255).2.1.toNat + (1 + en.length)) else
 if bg [44] (b.drop (numS b (k : Int) 255).2.1.toNat) then
  if (numS b ((numS b (k : Int) 255).2.1 + 1) 255).2.2 ≠ 0 ∨ (numS b ((numS b (k : Int) 255).2.1 + 1) 255).1 < (numS b (k : Int) 255).1 then none else
  if bg en (b.drop (numS b ((numS b (k : Int) 255).2.1 + 1) 255).2.1.toNat) then some ((numS b (k : Int) 255).1,(numS b ((numS b (k : Int) 255).2.1 + 1) 255).1,(numS b ((numS b (k : Int) 255).2.1 + 1) 255).2.1.toNat + en.length) else none
 else if bg en (b.drop (numS b (k : Int) 255).2.1.toNat) then some ((numS b (k : Int) 255).1,(numS b (k : Int) 255).1,(numS b (k : Int) 255).2.1.toNat + en.length) else none
theorem ivG_two (b : List UInt8) : ivG 2 [92,125] b = ivB b:=rfl
def ivlG (k : Nat) (en t : List UInt8) (i : Nat) : Option (Int × Int × Nat):=(ivG k en (t.drop i)).map fun x => (x.1,x.2.1,i + x.2.2)
theorem ivlG_two (t : List UInt8) (i : Nat) : ivlG 2 [92,125] t i = ivl t i:=rfl
theorem ivG_ok {K : Nat} {en b : List UInt8} (hen : en ≠ []) {lo hi : Int} {j : Nat} (h : ivG K en b = some (lo,hi,j)) : 0 ≤ lo ∧ timesN lo hi = true ∧ K + 2 ≤ j ∧ j ≤ b.length:=by
 have hel : 0 < en.length:=List.length_pos_iff.2 hen
 unfold ivG at h
 obtain ⟨x,y,e⟩ : ∃ x y e,numS b (K : Int) 255 = (x,y,e):=⟨_,_,_,rfl⟩
 rcases hq : numS b (K : Int) 255 with ⟨x,y,e⟩
 rw [hq] at h
 simp only at h
 by_cases he : e = 0
 · subst he
   obtain ⟨k,rfl,h1,h2,h3,h4⟩:=numS_ok (a:=K) hq
   rw [if_neg (by simp),Int.toNat_natCast] at h
   split at h
   · rename_i hb
     simp only [Option.some.injEq,Prod.mk.injEq] at h
     obtain ⟨rfl,rfl,rfl⟩:=h
     have:=bg_room hb
     simp at this
     exact ⟨h3,by simp [timesN,h3,h4],by omega,by omega⟩
   · split at h
     · rcases hq2 : numS b ((k : Int) + 1) 255 with ⟨x2,y2,e2⟩
       rw [hq2] at h
       simp only at h
       split at h
       · cases h
       · rename_i hne
         obtain rfl : e2 = 0:=by omega
         obtain ⟨k2,rfl,g1,g2,g3,g4⟩:=numS_ok (a:=k + 1) (by rw [← hq2];rfl)
         rw [Int.toNat_natCast] at h
         split at h
         · rename_i hb
           simp only [Option.some.injEq,Prod.mk.injEq] at h
           obtain ⟨rfl,rfl,rfl⟩:=h
           have:=bg_room hb
           simp [hen] at this
           have hxx : x ≤ x2:=by omega
           exact ⟨h3,by simp [timesN,h3,h4,g4,hxx],by omega,by omega⟩
         · cases h
     · split at h
       · rename_i hb
         simp only [Option.some.injEq,Prod.mk.injEq] at h
         obtain ⟨rfl,rfl,rfl⟩:=h
         have:=bg_room hb
         simp [hen] at this
         exact ⟨h3,by simp [timesN,h3,h4],by omega,by omega⟩
       · cases h
 · rw [if_pos he] at h;cases h
theorem ivB_ok {b : List UInt8} {lo hi : Int} {j : Nat} (h : ivB b = some (lo,hi,j)) : 0 ≤ lo ∧ timesN lo hi = true ∧ 4 ≤ j ∧ j ≤ b.length:=ivG_ok (K:=2) (en:=[92,125]) (by simp) h
theorem dEnd_drop (t : List UInt8) (i k : Nat) : dEnd t (i + k) = i + dEnd (t.drop i) k:=by
 unfold dEnd;rw [List.drop_drop];omega
theorem numS_drop (t : List UInt8) (i k : Nat) (most : Int) (h : i + k ≤ t.length) :
    numS t ((i + k : Nat) : Int) most = match numS (t.drop i) (k : Int) most with | (x,y,e) => (x,(if e = 0 then y + i else 0),e):=by
 have g1 : ¬ (((i + k : Nat) : Int) < 0 ∨ (t.length : Int) < ((i + k : Nat) : Int)):=by omega
 have g2 : ¬ ((k : Int) < 0 ∨ ((t.drop i).length : Int) < (k : Int)):=by rw [List.length_drop];omega
 unfold numS
 rw [if_neg g1,if_neg g2,Int.toNat_natCast,Int.toNat_natCast,dEnd_drop]
 have he : (t.take (i + dEnd (t.drop i) k)).drop (i + k) = ((t.drop i).take (dEnd (t.drop i) k)).drop k:=by
  rw [List.drop_take,List.drop_take,List.drop_drop]
  congr 1;omega
 rw [he]
 by_cases hd : dEnd (t.drop i) k = k
 · rw [if_pos (by omega),if_pos hd];rfl
 · rw [if_neg (by omega),if_neg hd]
   cases valS most (((t.drop i).take (dEnd (t.drop i) k)).drop k) 0 with
   | none => rfl
   | some v => simp only [if_true];rw [Prod.mk.injEq,Prod.mk.injEq];exact ⟨rfl,by omega,rfl⟩
theorem numS_drop_ok {t : List UInt8} {i k : Nat} {most x y : Int} (h : i + k ≤ t.length) (hs : numS t ((i + k : Nat) : Int) most = (x,y,0)) : numS (t.drop i) (k : Int) most = (x,y - i,0):=by
 rw [numS_drop t i k most h] at hs
 cases hn : numS (t.drop i) (k : Int) most with
 | mk a b =>
  obtain ⟨b,c⟩:=b
  rw [hn] at hs
  simp only [Prod.mk.injEq] at hs
  obtain ⟨rfl,h2,rfl⟩:=hs
  rw [if_pos rfl] at h2
  rw [show y - (i : Int) = b by omega]
theorem numS_drop_bad {t : List UInt8} {i k : Nat} {most x y e : Int} (h : i + k ≤ t.length) (hs : numS t ((i + k : Nat) : Int) most = (x,y,e)) : (numS (t.drop i) (k : Int) most).2.2 = e ∧ (numS (t.drop i) (k : Int) most).1 = x:=by
 rw [numS_drop t i k most h] at hs
 cases hn : numS (t.drop i) (k : Int) most with
 | mk a b =>
  obtain ⟨b,c⟩:=b
  rw [hn] at hs
  simp only [Prod.mk.injEq] at hs
  exact ⟨hs.2.2,hs.1⟩
theorem numS_err {t : List UInt8} {a : Nat} {most x y e : Int} (h : a ≤ t.length) (hs : numS t (a : Int) most = (x,y,e)) : e = 0 ∨ e = 3 ∨ e = 9:=by
 unfold numS at hs
 rw [if_neg (by omega)] at hs
 split at hs
 · simp only [Prod.mk.injEq] at hs;omega
 · split at hs
   · simp only [Prod.mk.injEq] at hs;omega
   · simp only [Prod.mk.injEq] at hs;omega
theorem numS_none {t : List UInt8} {a : Nat} {most : Int} {x : UInt8} {r : List UInt8} (hd : t.drop a = x :: r) (hx : cDigit (x.toNat : Int) = false) : numS t (a : Int) most = (0,0,9):=by
 have hl : a < t.length:=by
  have:=congrArg List.length hd
  rw [List.length_drop,List.length_cons] at this;omega
 unfold numS
 rw [if_neg (by omega),Int.toNat_natCast,if_pos (dEnd_no hl (by rw [List.drop_eq_getElem_cons hl] at hd;injection hd with hd _;rw [hd];exact hx))]
def rivI (t : List UInt8) (a : Nat) : Option (Int × Int × Nat) :=
 match numS t (a : Int) 255 with
 | (x,y,e) => if e ≠ 0 then none else if nx t y.toNat ≠ 44 then some (x,x,y.toNat) else
  match numS t ((y.toNat + 1 : Nat) : Int) 255 with
  | (x2,y2,e2) => if e2 = 3 ∨ (e2 = 0 ∧ x2 < x) then none else if e2 ≠ 0 then some (x,-1,y.toNat + 1) else some (x,x2,y2.toNat)
theorem nx_bg (t : List UInt8) (k : Nat) (c : UInt8) : nx t k = (c.toNat : Int) ↔ bg [c] (t.drop k) = true:=by
 have h:=nx_drop t k 0
 rw [Nat.add_zero] at h
 rw [h,nx_eq]
theorem drop_one {t : List UInt8} {i : Nat} {a : UInt8} {p : List UInt8} (h : bg (a :: p) (t.drop i) = true) : ∃ r,t.drop i = a :: r:=by
 cases hd : t.drop i with
 | nil => rw [hd] at h;cases h
 | cons x r =>
  rw [hd,bg_cons] at h
  simp only [Bool.and_eq_true,beq_iff_eq] at h
  exact ⟨r,by rw [h.1]⟩
theorem ivG_riv {K : Nat} {e0 : UInt8} {er : List UInt8} (he0 : cDigit (e0.toNat : Int) = false) {t : List UInt8} {i : Nat} (hlen : i + K ≤ t.length) : ivlG K (e0 :: er) t i = match rivI t (i + K) with
    | some (lo,hi,k) => if bg (e0 :: er) (t.drop k) = true then some (lo,hi,k + (er.length + 1)) else none
    | none => none:=by
 unfold ivlG ivG rivI
 rw [List.length_cons]
 cases h1 : numS t ((i + K : Nat) : Int) 255 with
 | mk x q =>
  obtain ⟨y,e⟩:=q
  by_cases he : e = 0
  · subst he
    obtain ⟨k,rfl,hk1,hk2,hx0,hx1⟩:=numS_ok h1
    have h2:=numS_drop_ok hlen h1
    rw [h2]
    have e1 : ((k : Int) - (i : Int)).toNat = k - i:=by omega
    have e2 : (t.drop i).drop (k - i) = t.drop k:=by rw [List.drop_drop];congr 1;omega
    simp only [e1,e2,Int.toNat_natCast,ne_eq,not_true_eq_false,if_false]
    by_cases hc : nx t k = 44
    · have hc1 : bg [44] (t.drop k) = true:=(nx_bg t k 44).1 hc
      have hk3 : k + 1 ≤ t.length:=by have:=bg_room hc1;simp at this;omega
      have hcn : ¬ ¬ nx t k = 44:=by simp [hc]
      rw [if_neg hcn]
      cases h3 : numS t ((k + 1 : Nat) : Int) 255 with
      | mk x2 q2 =>
       obtain ⟨y2,e3⟩:=q2
       simp only
       by_cases hbb : bg (44 :: e0 :: er) (t.drop k) = true
       · have hb1:=bg_tail hbb
         obtain ⟨r,hr⟩:=drop_one hb1
         rw [numS_none hr he0] at h3
         simp only [Prod.mk.injEq] at h3
         obtain ⟨rfl,rfl,rfl⟩:=h3
         rw [if_pos hbb,if_neg (by omega),if_pos (by decide)]
         simp only [hb1,if_true,Option.map_some,Option.some.injEq,Prod.mk.injEq,true_and]
         omega
       · rw [if_neg hbb,if_pos hc1]
         have hcast : (k : Int) - (i : Int) + 1 = ((k - i + 1 : Nat) : Int):=by omega
         have h3' : numS t ((i + (k - i + 1) : Nat) : Int) 255 = (x2,y2,e3):=by rw [show i + (k - i + 1) = k + 1 by omega];exact h3
         rw [hcast]
         rcases numS_err hk3 h3 with rfl | rfl | rfl
         · obtain ⟨k2,rfl,hk4,hk5,hx2,hx3⟩:=numS_ok h3
           have h4:=numS_drop_ok (by omega) h3'
           rw [h4]
           have e5 : ((k2 : Int) - (i : Int)).toNat = k2 - i:=by omega
           have e6 : (t.drop i).drop (k2 - i) = t.drop k2:=by rw [List.drop_drop];congr 1;omega
           simp only [e5,e6,Int.toNat_natCast]
           by_cases hlt : x2 < x
           · simp [hlt]
           · by_cases hz : bg (e0 :: er) (t.drop k2) = true
             · simp [hlt,hz];omega
             · simp [hlt,hz]
         · have h4:=numS_drop_bad (by omega) h3'
           rw [if_pos (.inl (by rw [h4.1];decide)),if_pos (.inl rfl)];rfl
         · have h4:=numS_drop_bad (by omega) h3'
           have hno : ¬ bg (e0 :: er) (t.drop (k + 1)) = true:=fun hz => hbb (by
            cases hd : t.drop k with
            | nil => rw [hd] at hc1;cases hc1
            | cons z r =>
             have hd1 : t.drop (k + 1) = r:=by
              have:=congrArg (List.drop 1) hd
              rwa [List.drop_drop] at this
             rw [hd,bg_cons,bg_nil,Bool.and_true] at hc1
             rw [bg_cons,hc1,← hd1,hz];rfl)
           rw [if_pos (.inl (by rw [h4.1];decide)),if_neg (by omega),if_pos (by decide)]
           simp [hno]
    · have hc1 : ¬ bg [44] (t.drop k) = true:=fun h => hc ((nx_bg t k 44).2 h)
      have hc2 : ¬ bg (44 :: e0 :: er) (t.drop k) = true:=fun h => hc1 (by
       cases hd : t.drop k with
       | nil => rw [hd] at h;cases h
       | cons z r => rw [hd,bg_cons] at h;rw [bg_cons,bg_nil,Bool.and_true];simp only [Bool.and_eq_true] at h;exact h.1)
      rw [if_neg hc2,if_neg hc1,if_pos hc]
      by_cases hz : bg (e0 :: er) (t.drop k) = true
      · simp only [hz,if_true,Option.map_some,Option.some.injEq,Prod.mk.injEq,true_and];omega
      · simp [hz]
  · have h2:=numS_drop_bad hlen h1
    rw [if_pos (by rw [h2.1];exact he)]
    simp only [if_pos he];rfl
theorem ivl_riv {t : List UInt8} {i : Nat} (hb : bg [92,123] (t.drop i) = true) : ivl t i = match rivI t (i + 2) with
    | some (lo,hi,k) => if bg [92,125] (t.drop k) = true then some (lo,hi,k + 2) else none
    | none => none:=by
 rw [← ivlG_two]
 exact ivG_riv (by decide) (by have:=bg_room hb;simp at this;omega)
theorem riv_in {t : List UInt8} {a : Nat} {lo hi : Int} {k : Nat} (ha : a ≤ t.length) (h : rivI t a = some (lo,hi,k)) : a < k ∧ k ≤ t.length:=by
 unfold rivI at h
 cases h1 : numS t (a : Int) 255 with
 | mk x q =>
  obtain ⟨y,e⟩:=q
  rw [h1] at h
  simp only at h
  by_cases he : e = 0
  · subst he
    obtain ⟨k1,rfl,hk1,hk2,hx0,hx1⟩:=numS_ok h1
    rw [if_neg (by decide),Int.toNat_natCast] at h
    by_cases hc : nx t k1 = 44
    · have hk3 : k1 + 1 ≤ t.length:=by have:=bg_room ((nx_bg t k1 44).1 hc);simp at this;omega
      rw [if_neg (by rw [hc];decide)] at h
      cases h3 : numS t ((k1 + 1 : Nat) : Int) 255 with
      | mk x2 q2 =>
       obtain ⟨y2,e3⟩:=q2
       rw [h3] at h
       simp only at h
       split at h
       · cases h
       · split at h
         · simp only [Option.some.injEq,Prod.mk.injEq] at h;omega
         · rename_i hz
           obtain rfl : e3 = 0:=by simpa using hz
           obtain ⟨k2,rfl,hk4,hk5,hx2,hx3⟩:=numS_ok h3
           simp only [Option.some.injEq,Prod.mk.injEq] at h;omega
    · rw [if_pos hc] at h
      simp only [Option.some.injEq,Prod.mk.injEq] at h;omega
  · rw [if_pos he] at h;cases h
def oneR (t : List UInt8) (i : Nat) : List UInt8 → Am
 | [] => .bad 0
 | c :: r => if c = 46 then .nod (i + 1) (setN allS) else if c = 91 then brkA t i else if c = 92 then escE i r else .nod (i + 1) (setN (ofL [c]))
def oneA (t : List UInt8) (i : Nat) : Am:=oneR t i (t.drop i)
theorem one_at {t : List UInt8} {i : Nat} {c : UInt8} {r : List UInt8} (h : t.drop i = c :: r) : oneA t i = oneR t i (c :: r):=by unfold oneA;rw [h]
def toC (pc : Bool) (x : Int) : Ct:=if pc then .L else .P x
def toP (pc : Bool) (x : Int) (ps : List Int) : List Int:=if pc then ps ++ [x] else ps
theorem atom_at {t : List UInt8} {i : Nat} {c : UInt8} {r : List UInt8} (h : t.drop i = c :: r) : atomA t i = atomR t i (c :: r):=by
 unfold atomA;rw [h]
theorem atom_esc {t : List UInt8} {i : Nat} {c : UInt8} {r : List UInt8} (h : t.drop i = 92 :: c :: r) : atomA t i = escA i (c :: r):=by
 unfold atomA;rw [h];rfl
end Go.Proofs.YtonjnagcdnmcpaaGreatDoor
