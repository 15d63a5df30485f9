/- Contracts and plain facts: M17. -/
import Derived.Test.YtonjnagcdnmcpaaGreatDoorM14
set_option linter.unusedVariables false
set_option linter.unusedSimpArgs false
set_option maxRecDepth 100000
set_option maxHeartbeats 32000000
namespace Go.Proofs.YtonjnagcdnmcpaaGreatDoor
open Go.RowKit
def Txt (w : World) (B : Nat) (A : Option Addr) (n c : Nat) (l : List UInt8) : Prop :=
 n = l.length ∧ n ≤ c ∧ c ≤ maxLen ∧ n ≤ 1000000 ∧ B ≤ w.heap.size ∧ Byt w B A l ∧ ∃ m : Int,0 < B ∧ w.cell? ⟨0,0,none⟩ = some (.int .i64 m)
def psrC (v : Value) (g : Nat) (A : Option Addr) (n c i : Nat) (cl : Nat → Bool) (e : Nat) : Array Value :=
 #[v,.int .i64 (g : Int),.slice A n c,.int .i64 (i : Int),.bool (cl 0),.bool (cl 1),.bool (cl 2),.bool (cl 3),.bool (cl 4),.bool (cl 5),.bool (cl 6),.bool (cl 7),.bool (cl 8),.bool (cl 9),.int .i64 (e : Int)]
section
variable {w w' : World} {B : Nat} {A : Option Addr} {n c : Nat} {l : List UInt8}
theorem Txt.below (h : Txt w B A n c l) (hb : Below B w w') : Txt w' B A n c l:=by
 obtain ⟨h1,h2,h3,h4,h5,h6,m,h7,h8⟩:=h
 exact ⟨h1,h2,h3,h4,Nat.le_trans h5 hb.size,h6.below hb,m,h7,(hb.cell (p:=⟨0,0,none⟩) h7).trans h8⟩
theorem Txt.inp (h : Txt w B A n c l) : Inp w A n c l:=by
 obtain ⟨h1,h2,h3,h4,h5,h6,m,h7,h8⟩:=h
 exact ⟨h1,h2,h3,h4,h6.more h5,m,nll h7 h5,h8⟩
end
def PHeld (w : World) (T : Nat) (cs : Array Value) : Prop:=∃ t,43 ≠ t ∧ 3 ≠ t ∧ Held w T t cs
section
variable {w w' : World} {T : Nat} {cs : Array Value}
theorem PHeld.lt (h : PHeld w T cs) : T < w.heap.size:=by obtain ⟨t,_,_,h⟩:=h;exact h.lt
theorem PHeld.at_ (h : PHeld w T cs) {i : Nat} {v : Value} (hv : cs[i]? = some v) : w.cell? ⟨T,i,none⟩ = some v:=by obtain ⟨t,_,_,h⟩:=h;exact h.at_ hv
theorem PHeld.thawed (h : PHeld w T cs) (i : Nat) : w.frozen? ⟨T,i,none⟩ = false:=by obtain ⟨t,_,_,h⟩:=h;exact h.thawed i
theorem PHeld.keep (h : PHeld w T cs) (hb : Below w.heap.size w w') : PHeld w' T cs:=by obtain ⟨t,h1,h2,h⟩:=h;exact ⟨t,h1,h2,h.keep hb⟩
theorem PHeld.put (h : PHeld w T cs) (i : Nat) (v : Value) : PHeld (w.setCell ⟨T,i,none⟩ v) T (cs.setIfInBounds i v):=by obtain ⟨t,h1,h2,h⟩:=h;exact ⟨t,h1,h2,h.put i v⟩
theorem PHeld.grown {r : Option Nat} (h : PHeld w T cs) (hg : w.grownBy w' r) (hne : some T ≠ r) : PHeld w' T cs:=by obtain ⟨t,h1,h2,h⟩:=h;exact ⟨t,h1,h2,h.grown hg hne⟩
theorem PHeld.not_own {base : Nat} {size n : Nat} {v : Value} {xs : List Value} (h : PHeld w T cs) (ho : w.ownsRow base 43 size v n xs) : v.ownBlock ≠ some T:=by obtain ⟨t,h1,h2,h⟩:=h;exact h.not_own ho h1
end
structure Psr (w : World) (B T : Nat) (A : Option Addr) (n c : Nat) (l : List UInt8) (v : Value) (ns : List Nod) (g i : Nat) (cl : Nat → Bool) (e : Nat) : Prop where
 held : PHeld w T (psrC v g A n c i cl e)
 own : w.ownsRow B 43 10 v ns.length (nodsL ns)
 len : ns.length ≤ 1000
 grp : g ≤ 9
 base : B ≤ T
 le : i ≤ n
 clg : ∀ q,cl q = true → 1 ≤ q ∧ q ≤ g
 txt : Txt w B A n c l
structure ChP (w w' : World) (T : Nat) (v v' : Value) : Prop where
 os : w'.os = w.os
 tape : w'.tape = w.tape
 output : w'.output = w.output
 size : w.heap.size ≤ w'.heap.size
 far : ∀ k,k < w.heap.size → k ≠ T → some k ≠ v.ownBlock → w'.heap[k]? = w.heap[k]?
 row : ∀ k,v'.ownBlock = some k → v.ownBlock = some k ∨ w.heap.size ≤ k
section
variable {w w' w1 : World} {B T : Nat} {v v' v1 : Value}
theorem Chg.chp {o : Nat} (h : Chg w w' T o v v') : ChP w w' T v v':=⟨h.os,h.tape,h.output,h.size,h.far,h.row⟩
theorem ChP.of_below (h : Below w.heap.size w w') : ChP w w' T v v:=⟨h.os,h.tape,h.output,h.size,fun k hk _ _ => h.block k hk,fun _ e => .inl e⟩
theorem ChP.trans (h : ChP w w1 T v v1) (k : ChP w1 w' T v1 v') : ChP w w' T v v':=by
 refine ⟨k.os.trans h.os,k.tape.trans h.tape,k.output.trans h.output,Nat.le_trans h.size k.size,fun j hj hT hv => ?_,fun j e => ?_⟩
 · refine (k.far j (nll hj h.size) hT (fun e => ?_)).trans (h.far j hj hT hv)
   rcases h.row j e.symm with e1 | e1
   · exact hv e1.symm
   · omega
 · rcases k.row j e with e1 | e1
   · exact h.row j e1
   · exact .inr (Nat.le_trans h.size e1)
theorem ChP.store (w : World) (T p : Nat) (u v : Value) : ChP w (w.setCell ⟨T,p,none⟩ u) T v v:=by
 have hb : Below 0 w (w.setCell ⟨T,p,none⟩ u):=(Below.refl 0 w).setCell (Nat.zero_le _) u
 exact ⟨hb.os,hb.tape,hb.output,hb.size,fun k hk hT _ => Below.heap_setCell w _ u k hT,fun _ e => .inl e⟩
theorem ChP.below (h : ChP w w' T v v') (hB : B ≤ w.heap.size) (hT : B ≤ T) (hv : ∀ k,v.ownBlock = some k → B ≤ k) : Below B w w' :=
 ⟨h.os,h.tape,h.output,h.size,fun k hk => h.far k (by omega) (by omega) (fun e => by have:=hv k e.symm;omega)⟩
end
section
variable {w w' : World} {B T : Nat} {A : Option Addr} {n c : Nat} {l : List UInt8} {v v' : Value} {ns ns' : List Nod} {g g' i : Nat} {cl : Nat → Bool} {e : Nat} (h : Psr w B T A n c l v ns g i cl e)
include h
theorem Psr.lt : T < w.heap.size:=h.held.lt
theorem Psr.row : ∀ k,v.ownBlock = some k → B ≤ k:=fun k e => (h.own.lt k e).1
theorem Psr.bhs : B ≤ w.heap.size:=h.txt.2.2.2.2.1
theorem Psr.below (k : ChP w w' T v v') : Below B w w':=k.below h.bhs h.base h.row
theorem Psr.keep (hb : Below w.heap.size w w') : Psr w' B T A n c l v ns g i cl e :=
 ⟨h.held.keep hb,own_below h.own hb,h.len,h.grp,h.base,h.le,h.clg,h.txt.below (hb.mono h.bhs)⟩
theorem Psr.inp : Inp w A n c l:=h.txt.inp
theorem Psr.hn : n = l.length:=h.txt.1
theorem Psr.c0 : w.cell? ⟨T,0,none⟩ = some v:=h.held.at_ rfl
theorem Psr.c1 : w.cell? ⟨T,1,none⟩ = some (.int .i64 (g : Int)):=h.held.at_ rfl
theorem Psr.c2 : w.cell? ⟨T,2,none⟩ = some (.slice A n c):=h.held.at_ rfl
theorem Psr.c3 : w.cell? ⟨T,3,none⟩ = some (.int .i64 (i : Int)):=h.held.at_ rfl
theorem Psr.c14 : w.cell? ⟨T,14,none⟩ = some (.int .i64 (e : Int)):=h.held.at_ rfl
theorem Psr.thawed (p : Nat) : w.frozen? ⟨T,p,none⟩ = false:=h.held.thawed p
theorem Psr.apart : v.ownBlock ≠ some T:=h.held.not_own h.own
theorem Psr.bldr : Bldr w B T 0 v ns g:=by
 obtain ⟨t,h1,h2,h3⟩:=h.held
 exact ⟨⟨t,_,h3,h1,rfl,rfl⟩,h.own,h.len,h.grp,h.bhs⟩
theorem Psr.built (hg : g ≤ g') (hb : Bldr w' B T 0 v' ns' g') (hc : Chg w w' T 0 v v') : Psr w' B T A n c l v' ns' g' i cl e:=by
 obtain ⟨t0,w1,w2,hh⟩:=h.held
 obtain ⟨cs',h1,s1,n1⟩:=hc.near _ _ hh
 obtain ⟨t,cs,h2,hne,a0,a1⟩:=hb.obj
 have e0 : t = t0 ∧ cs = cs':=by
  unfold Held at h1 h2
  rw [h1] at h2
  injection h2 with h2
  injection h2 with q1 q2
  exact ⟨q2.symm,q1.symm⟩
 obtain ⟨rfl,rfl⟩:=e0
 have hcs : cs = psrC v' g' A n c i cl e:=by
  apply Array.ext_getElem?
  intro j
  by_cases h0 : j = 0
  · subst h0;exact a0
  by_cases h1 : j = 1
  · subst h1;exact a1
  rw [n1 j h0 h1]
  match j,h0,h1 with
  | j + 2,_,_ => simp [psrC]
 subst hcs
 exact ⟨⟨_,w1,w2,h1⟩,hb.own,hb.len,hb.grp,h.base,h.le,fun q hq => ⟨(h.clg q hq).1,Nat.le_trans (h.clg q hq).2 hg⟩,h.txt.below (h.below hc.chp)⟩
theorem Psr.own_cell (p : Nat) (u : Value) : (w.setCell ⟨T,p,none⟩ u).ownsRow B 43 10 v ns.length (nodsL ns):=by
 have hb : Below 0 w (w.setCell ⟨T,p,none⟩ u):=(Below.refl 0 w).setCell (Nat.zero_le _) u
 exact h.own.kept (v:=v) ⟨hb.os,hb.tape,hb.output,hb.size,fun k _ hk => Below.heap_setCell w _ u k (fun e => hk (by rw [e]))⟩ (.inr h.apart)
theorem Psr.txt_cell (p : Nat) (u : Value) : Txt (w.setCell ⟨T,p,none⟩ u) B A n c l:=h.txt.below (h.below (ChP.store w T p u v))
theorem Psr.goto {j : Nat} (hj : j ≤ n) : Psr (w.setCell ⟨T,3,none⟩ (.int .i64 (j : Int))) B T A n c l v ns g j cl e :=
 ⟨h.held.put 3 _,h.own_cell _ _,h.len,h.grp,h.base,hj,h.clg,h.txt_cell _ _⟩
theorem Psr.goto' {j : Nat} (hj : j ≤ n) {z : Int} (hz : z = (j : Int)) : Psr (w.setCell ⟨T,3,none⟩ (.int .i64 z)) B T A n c l v ns g j cl e:=by
 subst hz;exact h.goto hj
theorem Psr.erred (q : Nat) {z : Int} (hz : z = (q : Int)) : Psr (w.setCell ⟨T,14,none⟩ (.int .i64 z)) B T A n c l v ns g i cl q:=by
 subst hz
 exact ⟨h.held.put 14 _,h.own_cell _ _,h.len,h.grp,h.base,h.le,h.clg,h.txt_cell _ _⟩
theorem Psr.ended {q : Nat} (h1 : 1 ≤ q) (h9 : q ≤ g) : Psr (w.setCell ⟨T,4 + q,none⟩ (.bool true)) B T A n c l v ns g i (setQ cl q) e:=by
 refine ⟨?_,h.own_cell _ _,h.len,h.grp,h.base,h.le,fun x hx => ?_,h.txt_cell _ _⟩
 · have:=h.held.put (4 + q) (.bool true)
   have hg:=h.grp
   rwa [show (psrC v g A n c i cl e).setIfInBounds (4 + q) (.bool true) = psrC v g A n c i (setQ cl q) e from by
    obtain rfl | rfl | rfl | rfl | rfl | rfl | rfl | rfl | rfl : q = 1 ∨ q = 2 ∨ q = 3 ∨ q = 4 ∨ q = 5 ∨ q = 6 ∨ q = 7 ∨ q = 8 ∨ q = 9:=by omega
    all_goals rfl] at this
 · unfold setQ at hx
   split at hx
   · omega
   · exact h.clg x hx
theorem Psr.cQ (q : Nat) (h9 : q ≤ 9) : w.cell? ⟨T,4 + q,none⟩ = some (.bool (cl q)):=by
 refine h.held.at_ ?_
 obtain rfl | rfl | rfl | rfl | rfl | rfl | rfl | rfl | rfl | rfl : q = 0 ∨ q = 1 ∨ q = 2 ∨ q = 3 ∨ q = 4 ∨ q = 5 ∨ q = 6 ∨ q = 7 ∨ q = 8 ∨ q = 9:=by omega
 all_goals rfl
end
theorem bbegins_any (A : Option Addr) (n c : Nat) (l : List UInt8) (s : ByteArray) (w : World) (h : Inp w A n c l) :
    Calls Tryz.prog 69 #[.slice A n c,.string s] w fun e w' => e = .returned (.bool (bg s.data.toList l)) ∧ Below w.heap.size w w':=by
 obtain ⟨h1,h2,h3,h4,h5,h6⟩:=h
 obtain ⟨cp,w1,hcv,hs1,hb1,_⟩:=conv_bytes w s
 have hP:=lhi (hasPrefix_any A (some ⟨w.heap.size,0,none⟩) n c s.size cp l s.data.toList _ _ w1 h1 h2 (len_toList s).symm (h5.below hb1) hs1)
 have hb1':=lhi hb1
 clear h1 h2 h3 h4 h5 h6 hs1 hb1
 go_enter Tryz.func69,Tryz.ntmps69
 go_wp2_with (go_at_call 91;refine (hP.out).mono ?_;rintro e w' ⟨rfl,rfl⟩)
 go_ret
 exact ⟨rfl,hb1'.out⟩
theorem put_yes (T x : Nat) (w : World) : Calls Tryz.prog 44 #[.pointer (some ⟨T,0,none⟩),.int .i64 (x : Int)] w fun e w' => e = .returned (.int .i64 (x : Int)) ∧ w = w':=by
 have hq : ((x : Int) == -1) = false:=by rw [bef];omega
 go_enter Tryz.func44,Tryz.ntmps44
 go_wp2
 go_ret
 exact ⟨rfl,rfl⟩
section
variable {w w' : World} {B T : Nat} {A : Option Addr} {n c : Nat} {l : List UInt8} {v v' : Value} {ns ns' : List Nod} {g g' i : Nat} {cl : Nat → Bool} {e : Nat} (h : Psr w B T A n c l v ns g i cl e)
include h
theorem comes_any (s : ByteArray) : Calls Tryz.prog 47 #[.pointer (some ⟨T,0,none⟩),.string s] w fun e w' => e = .returned (.bool (bg s.data.toList (l.drop i))) ∧ Below w.heap.size w w':=by
 have hI:=h.inp
 have c2:=h.c2
 have c3:=h.c3
 have hle:=h.le
 have hnc : n ≤ c:=hI.2.1
 have hcm : c ≤ maxLen:=hI.2.2.1
 unfold maxLen at hcm
 have hd:=lhi (hI.drop hle)
 have hBl:=lhi (fun w' (hb : Below w.heap.size w w') => bbegins_any (if c = i then A else A.map (·.add i)) (n - i) (c - i) (l.drop i) s w' ((hI.drop hle).grow hb))
 have hx:=lhi (show Below w.heap.size w w from Below.refl _ _)
 clear hI h
 by_cases hck : c = i
 · obtain rfl : n = i:=by omega
   obtain rfl : c = n:=hck
   rw [if_pos rfl,Nat.sub_self] at hBl
   go_enter Tryz.func47,Tryz.ntmps47
   go_wp2_with (first | (go_region_with ((go_at_call 69;refine (hBl.out _ (by first | exact hx.out | exact hx.out.drew)).mono ?_;rintro e w1 ⟨rfl,hb1⟩))) | fail)
   all_goals
    go_ret
    exact ⟨rfl,by first | exact hb1 | exact (hx.out.drew).trans hb1⟩
 · rw [if_neg hck] at hBl
   go_enter Tryz.func47,Tryz.ntmps47
   go_wp2_with (first | (go_region_with ((go_at_call 69;refine (hBl.out _ (by first | exact hx.out | exact hx.out.drew)).mono ?_;rintro e w1 ⟨rfl,hb1⟩))) | fail)
   all_goals
    go_ret
    exact ⟨rfl,by first | exact hb1 | exact (hx.out.drew).trans hb1⟩
theorem ends_any : Calls Tryz.prog 25 #[.pointer (some ⟨T,0,none⟩)] w fun e w' => e = .returned (.bool (decide (i = n))) ∧ Below w.heap.size w w':=by
 have c2:=h.c2
 have c3:=h.c3
 have hx:=lhi (show Below w.heap.size w w from Below.refl _ _)
 have hq : ((i : Int) == (n : Int)) = decide (i = n):=by rw [Bool.eq_iff_iff];simp;omega
 clear h
 go_enter Tryz.func25,Tryz.ntmps25
 go_wp2
 go_quiet (fail)
 go_wp2
 go_ret
 exact ⟨rfl,by first | exact hx.out | exact below_drewN hx.out _⟩
theorem fine_any : Calls Tryz.prog 39 #[.pointer (some ⟨T,0,none⟩)] w fun x w' => x = .returned (.bool (decide (e = 0))) ∧ w = w':=by
 have c14:=h.c14
 have hq : ((e : Int) == 0) = decide (e = 0):=by rw [Bool.eq_iff_iff];simp
 clear h
 go_enter Tryz.func39,Tryz.ntmps39
 go_wp2
 go_ret
 exact ⟨rfl,rfl⟩
theorem wrong_any (q : Nat) (qq : Int) (hq : qq = (q : Int)) : Calls Tryz.prog 66 #[.pointer (some ⟨T,0,none⟩),.int .i64 qq] w fun e w' => e = .returned (.int .i64 (-1)) ∧ Psr w' B T A n c l v ns g i cl q ∧ ChP w w' T v v:=by
 have h1:=lhi (h.erred q hq)
 have t14:=h.thawed 14
 have c14:=h.c14
 have hT:=h.lt
 clear h hq
 go_enter Tryz.func66,Tryz.ntmps66
 go_wp2
 go_ret
 exact ⟨rfl,h1.out,ChP.store _ _ _ _ _⟩
theorem put_no : Calls Tryz.prog 44 #[.pointer (some ⟨T,0,none⟩),.int .i64 (-1)] w fun e w' => e = .returned (.int .i64 (-1)) ∧ Psr w' B T A n c l v ns g i cl 8 ∧ ChP w w' T v v:=by
 have h1:=lhi (wrong_any h 8 8 rfl)
 clear h
 go_enter Tryz.func44,Tryz.ntmps44
 go_wp2_with (go_at_call 66;refine (h1.out).mono ?_;rintro e w' ⟨rfl,h2,h3⟩;replace h2:=lhi h2;replace h3:=lhi h3)
 go_ret
 exact ⟨rfl,h2.out,h3.out⟩
theorem take_no (s : ByteArray) (hs : bg s.data.toList (l.drop i) = false) : Calls Tryz.prog 43 #[.pointer (some ⟨T,0,none⟩),.string s] w fun x w' => x = .returned (.bool false) ∧ Below w.heap.size w w':=by
 have hC:=lhi (comes_any h s)
 rw [hs] at hC
 clear h hs
 go_enter Tryz.func43,Tryz.ntmps43
 go_wp2_with (go_at_call 47;refine (hC.out).mono ?_;rintro e w1 ⟨rfl,hb1⟩;replace hb1:=lhi hb1)
 go_ret
 exact ⟨rfl,hb1.out⟩
theorem take_yes (s : ByteArray) (hs : bg s.data.toList (l.drop i) = true) (m : Nat) (hm : s.size = m) (h0 : 0 < m) : Calls Tryz.prog 43 #[.pointer (some ⟨T,0,none⟩),.string s] w fun x w' => x = .returned (.bool true) ∧ i + m ≤ n ∧ Psr w' B T A n c l v ns g (i + m) cl e ∧ ChP w w' T v v:=by
 have hC:=lhi (comes_any h s)
 rw [hs] at hC
 have hrm:=bg_len hs
 rw [List.length_drop,len_toList] at hrm
 have hnl:=h.hn
 have hns : n ≤ 1000000:=h.txt.2.2.2.1
 have him : i + m ≤ n:=by omega
 have hi0 : (i : Int) ≤ 1000000:=by omega
 have hm0 : (m : Int) ≤ 1000000:=by omega
 have hP:=lhi (fun w1 (hb : Below w.heap.size w w1) => h.keep hb)
 clear h hs hrm hnl
 subst hm
 go_enter Tryz.func43,Tryz.ntmps43
 go_wp2_with (go_at_call 47;refine (hC.out).mono ?_;rintro e w1 ⟨rfl,hb1⟩;have h2:=hP.out _ hb1;have c3:=h2.c3;have t3:=h2.thawed 3;have h3:=lhi (h2.goto' him (z:=(i : Int) + (s.size : Int)) (by omega));have k3:=lhi ((ChP.of_below (T:=T) (v:=v) hb1).trans (ChP.store w1 T 3 (.int .i64 ((i : Int) + (s.size : Int))) v));clear h2)
 go_ret
 exact ⟨rfl,him,h3.out,k3.out⟩
end
def YPut (w : World) (B T : Nat) (A : Option Addr) (n c : Nat) (l : List UInt8) (v : Value) (ns : List Nod) (g : Nat) (cl : Nat → Bool) (j : Nat) (nd : Nod) (e : Ending) (w' : World) : Prop :=
 (ns.length < 1000 ∧ ∃ v',e = .returned (.int .i64 (ns.length : Int)) ∧ Psr w' B T A n c l v' (ns ++ [nd]) g j cl 0 ∧ ChP w w' T v v') ∨
 (¬ ns.length < 1000 ∧ ∃ v',e = .returned (.int .i64 (-1)) ∧ Psr w' B T A n c l v' ns g j cl 8 ∧ ChP w w' T v v')
def YBad (w : World) (B T : Nat) (A : Option Addr) (n c : Nat) (l : List UInt8) (v : Value) (p q : Nat) (e : Ending) (w' : World) : Prop :=
 ∃ v' ns g cl,e = .returned (.int .i64 (-1)) ∧ Psr w' B T A n c l v' ns g p cl q ∧ ChP w w' T v v'
theorem Held.chp {w w' : World} {G T : Nat} {t : TypeId} {cs : Array Value} {v v' : Value} (h : Held w G t cs) (k : ChP w w' T v v') (h1 : G ≠ T) (h2 : some G ≠ v.ownBlock) : Held w' G t cs:=(k.far G h.lt h1 h2).trans h
theorem ChP.new_own {w w' : World} {T G : Nat} {v v' : Value} (k : ChP w w' T v v') (hG : G < w.heap.size) (hv : some G ≠ v.ownBlock) : some G ≠ v'.ownBlock:=fun e => by
 rcases k.row _ e.symm with q | q
 · exact hv q.symm
 · omega
theorem Held.cells4 {w : World} {B : Nat} {t : TypeId} {v0 v1 v2 v3 : Value} (h : Held w B t #[v0,v1,v2,v3]) :
    w.cell? ⟨B,0,none⟩ = some v0 ∧ w.cell? ⟨B,1,none⟩ = some v1 ∧ w.cell? ⟨B,2,none⟩ = some v2 ∧ w.cell? ⟨B,3,none⟩ = some v3:=⟨h.at_ rfl,h.at_ rfl,h.at_ rfl,h.at_ rfl⟩
section
variable {w w' : World} {B T : Nat} {A : Option Addr} {n c : Nat} {l : List UInt8} {v v' : Value} {ns ns' : List Nod} {g g' i : Nat} {cl : Nat → Bool} {e : Nat}
theorem YPut.yes {j : Nat} {nd : Nod} (hl : ns.length < 1000) (h : Psr w' B T A n c l v' (ns ++ [nd]) g j cl 0) (hc : ChP w w' T v v') : YPut w B T A n c l v ns g cl j nd (.returned (.int .i64 (ns.length : Int))) w':=.inl ⟨hl,_,rfl,h,hc⟩
theorem YPut.no {j : Nat} {nd : Nod} (hl : ¬ ns.length < 1000) (h : Psr w' B T A n c l v' ns g j cl 8) (hc : ChP w w' T v v') : YPut w B T A n c l v ns g cl j nd (.returned (.int .i64 (-1))) w':=.inr ⟨hl,_,rfl,h,hc⟩
theorem YPut.from {w0 : World} {v0 : Value} {j : Nat} {nd : Nod} {x : Ending} (h : YPut w B T A n c l v ns g cl j nd x w') (h0 : ChP w0 w T v0 v) : YPut w0 B T A n c l v0 ns g cl j nd x w':=by
 rcases h with ⟨a,v',b,k,m⟩ | ⟨a,v',b,k,m⟩
 · exact .inl ⟨a,v',b,k,h0.trans m⟩
 · exact .inr ⟨a,v',b,k,h0.trans m⟩
theorem Psr.own_lt (h : Psr w B T A n c l v ns g i cl e) {G : Nat} (hG : w.heap.size ≤ G) : some G ≠ v.ownBlock:=fun e => by
 have:=(h.own.lt G e.symm).2;omega
theorem Psr.room (h : Psr w B T A n c l v ns g i cl e) {nd : Nod} (hl : ns.length < 1000) (hf : fitsN nd (ns.length : Int) (g : Int) = true) {x : Ending} (hb : BldRet w B T 0 v (putI ns g nd) (putL ns g nd) g x w') :
    ∃ v',x = .returned (.int .i64 (ns.length : Int)) ∧ Psr w' B T A n c l v' (ns ++ [nd]) g i cl e ∧ ChP w w' T v v':=by
 obtain ⟨v',h1,h2,h3⟩:=hb
 have hc:=canPut_of hl hf
 rw [putI_yes hc] at h1
 rw [putL_yes hc] at h2
 exact ⟨v',h1,h.built (nlr _) h2 h3,h3.chp⟩
theorem Psr.full (h : Psr w B T A n c l v ns g i cl e) {nd : Nod} (hl : ¬ ns.length < 1000) {x : Ending} (hb : BldRet w B T 0 v (putI ns g nd) (putL ns g nd) g x w') :
    ∃ v',x = .returned (.int .i64 (-1)) ∧ Psr w' B T A n c l v' ns g i cl e ∧ ChP w w' T v v':=by
 obtain ⟨v',h1,h2,h3⟩:=hb
 have hc : canPut ns g nd = false:=canPut_full (by omega)
 rw [putI_no hc] at h1
 rw [putL_no hc] at h2
 exact ⟨v',h1,h.built (nlr _) h2 h3,h3.chp⟩
end
theorem bset_any {w : World} {B T : Nat} {A : Option Addr} {n c : Nat} {l : List UInt8} {v : Value} {ns : List Nod} {g i : Nat} {cl : Nat → Bool} (h : Psr w B T A n c l v ns g i cl 0) (k : Nat) (kk : Int) (hkk : kk = (k : Int)) (hk : i + k ≤ n) (s : Nat → Bool) :
    Calls Tryz.prog 115 #[.pointer (some ⟨T,0,none⟩),.int .i64 kk,.agg (setC s)] w (YPut w B T A n c l v ns g cl (i + k) (setN s)):=by
 have hns : n ≤ 1000000:=h.txt.2.2.2.1
 have c3:=h.c3
 have t3:=h.thawed 3
 have h1:=h.goto' hk (z:=(i : Int) + kk) (by omega)
 have hsz : (w.setCell ⟨T,3,none⟩ (.int .i64 ((i : Int) + kk))).heap.size = w.heap.size:=by simp
 have hb0 : Below (w.setCell ⟨T,3,none⟩ (.int .i64 ((i : Int) + kk))).heap.size (w.setCell ⟨T,3,none⟩ (.int .i64 ((i : Int) + kk))) ((w.setCell ⟨T,3,none⟩ (.int .i64 ((i : Int) + kk))).alloc (.cells (setC s) 41)):=(Below.refl _ _).alloc (nlr _) _
 have hx:=lhi ((ChP.store w T 3 (.int .i64 ((i : Int) + kk)) v).trans (ChP.of_below (T:=T) (v:=v) hb0))
 have hTl:=h.lt
 have hGT : w.heap.size ≠ T:=by omega
 have hTG:=hGT.symm
 have hGv:=lhi (h.own_lt (nlr w.heap.size))
 have hG:=held_new (w.setCell ⟨T,3,none⟩ (.int .i64 ((i : Int) + kk))) 41 (setC s)
 rw [hsz] at hG
 replace h1:=h1.keep hb0
 have hk0 : kk ≤ 1000000:=by omega
 have hk1 : 0 ≤ kk:=by omega
 have hi0 : (i : Int) ≤ 1000000:=by omega
 clear hb0 h hkk hsz
 unfold setV at *
 rw [show setC s = #[.int .u64 (wd s 0 : Nat),.int .u64 (wd s 1 : Nat),.int .u64 (wd s 2 : Nat),.int .u64 (wd s 3 : Nat)] from rfl] at *
 have hS:=lhi (fun (w1 : World) (h1 : Psr w1 B T A n c l v ns g (i + k) cl 0) => set_any B T 0 v ns g w1 h1.bldr s)
 unfold setV at hS
 rw [show setC s = #[.int .u64 (wd s 0 : Nat),.int .u64 (wd s 1 : Nat),.int .u64 (wd s 2 : Nat),.int .u64 (wd s 3 : Nat)] from rfl] at hS
 generalize wd s 0 = s0 at *
 generalize wd s 1 = s1 at *
 generalize wd s 2 = s2 at *
 generalize wd s 3 = s3 at *
 have h1d:=lhi (h1.keep (Below.refl _ _).drew)
 have h1':=lhi h1
 have hGd:=lhi hG.drew
 have hxd:=lhi (hx.out.trans (ChP.of_below (Below.refl _ _).drew))
 clear h1 hG
 by_cases hl : ns.length < 1000
 · have hl':=lhi hl
   go_enter Tryz.func115,Tryz.ntmps115
   go_wp2
   go_region_held3 (fun w' => w'.cell? ⟨w.heap.size,0,none⟩ = some (.int .u64 (s0 : Int)) ∧ w'.cell? ⟨w.heap.size,1,none⟩ = some (.int .u64 (s1 : Int)) ∧ w'.cell? ⟨w.heap.size,2,none⟩ = some (.int .u64 (s2 : Int)) ∧ w'.cell? ⟨w.heap.size,3,none⟩ = some (.int .u64 (s3 : Int)))
    (first | exact hGd.out.cells4 | go_keep)
    (first
    | (go_at_call 114;refine (hS.out _ h1d.out).mono ?_;intro x w2 hx2;obtain ⟨v2,rfl,h2,k2⟩:=h1d.out.room hl'.out (fits_set s _ _) hx2;clear hx2;replace hGd:=lhi (hGd.out.chp k2 hGT hGv.out);replace h2:=lhi h2;replace k2:=lhi (hxd.out.trans k2))
    | (go_at_call 44;refine (put_yes T ns.length _).mono ?_;rintro x w3 ⟨rfl,rfl⟩))
   all_goals
    go_wp2
    go_ret
    exact YPut.yes hl'.out h2.out k2.out
 · have hl':=lhi hl
   go_enter Tryz.func115,Tryz.ntmps115
   go_wp2
   go_region_held3 (fun w' => w'.cell? ⟨w.heap.size,0,none⟩ = some (.int .u64 (s0 : Int)) ∧ w'.cell? ⟨w.heap.size,1,none⟩ = some (.int .u64 (s1 : Int)) ∧ w'.cell? ⟨w.heap.size,2,none⟩ = some (.int .u64 (s2 : Int)) ∧ w'.cell? ⟨w.heap.size,3,none⟩ = some (.int .u64 (s3 : Int)))
    (first | exact hGd.out.cells4 | go_keep)
    (first
    | (go_at_call 114;refine (hS.out _ h1d.out).mono ?_;intro x w2 hx2;obtain ⟨v2,rfl,h2,k2⟩:=h1d.out.full hl'.out hx2;clear hx2;have hGv2:=lhi (k2.new_own hGd.out.lt hGv.out);replace hGd:=lhi (hGd.out.chp k2 hGT hGv.out);replace h2:=lhi h2;replace k2:=lhi (hxd.out.trans k2))
    | (go_at_call 44;refine (put_no h2.out).mono ?_;rintro x w3 ⟨rfl,h3,k3⟩;replace h3:=lhi h3;replace hGd:=lhi (hGd.out.chp k3 hGT hGv2.out);replace k3:=lhi (k2.out.trans k3)))
   all_goals
    go_wp2
    go_ret
    exact YPut.no hl'.out h3.out k3.out
end Go.Proofs.YtonjnagcdnmcpaaGreatDoor
