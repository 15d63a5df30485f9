/- Contracts and plain facts: M46. -/
import Derived.Test.YtonjnagcdnmcpaaGreatDoorM25
set_option linter.unusedVariables false
set_option linter.unusedSimpArgs false
set_option maxRecDepth 100000
set_option maxHeartbeats 32000000
namespace Go.Proofs.YtonjnagcdnmcpaaGreatDoor
open Go.RowKit
def rdrC (v : Value) (g : Nat) (A : Option Addr) (n c i : Nat) (cl : Nat → Bool) (e : Nat) : Array Value :=
 #[.slice A n c,.int .i64 (i : Int),.int .i64 (e : Int),v,.int .i64 (g : Int),.bool (cl 0),.bool (cl 1),.bool (cl 2),.bool (cl 3),.bool (cl 4),.bool (cl 5),.bool (cl 6),.bool (cl 7),.bool (cl 8),.bool (cl 9)]
structure Rdr (w : World) (B T : Nat) (A : Option Addr) (n c : Nat) (l : List UInt8) (v : Value) (ns : List Nod) (g i : Nat) (cl : Nat → Bool) (e : Nat) : Prop where
 held : Held w T 70 (rdrC v g A n c i cl e)
 own : w.ownsRow B 43 10 v ns.length (nodsL ns)
 len : ns.length ≤ 1000
 grp : g ≤ 9
 base : B ≤ T
 le : i ≤ n
 clg : ∀ q,cl q = true → 1 ≤ q ∧ q ≤ g
 txt : Txt w B A n c l
section
variable {w w' : World} {B T : Nat} {A : Option Addr} {n c : Nat} {l : List UInt8} {v v' : Value} {ns ns' : List Nod} {g g' i : Nat} {cl : Nat → Bool} {e : Nat} (h : Rdr w B T A n c l v ns g i cl e)
include h
theorem Rdr.lt : T < w.heap.size:=h.held.lt
theorem Rdr.row : ∀ k,v.ownBlock = some k → B ≤ k:=fun k e => (h.own.lt k e).1
theorem Rdr.bhs : B ≤ w.heap.size:=h.txt.2.2.2.2.1
theorem Rdr.below (k : ChP w w' T v v') : Below B w w':=k.below h.bhs h.base h.row
theorem Rdr.keep (hb : Below w.heap.size w w') : Rdr w' B T A n c l v ns g i cl e :=
 ⟨h.held.keep hb,own_below h.own hb,h.len,h.grp,h.base,h.le,h.clg,h.txt.below (hb.mono h.bhs)⟩
theorem Rdr.inp : Inp w A n c l:=h.txt.inp
theorem Rdr.hn : n = l.length:=h.txt.1
theorem Rdr.c0 : w.cell? ⟨T,0,none⟩ = some (.slice A n c):=h.held.at_ rfl
theorem Rdr.c1 : w.cell? ⟨T,1,none⟩ = some (.int .i64 (i : Int)):=h.held.at_ rfl
theorem Rdr.c2 : w.cell? ⟨T,2,none⟩ = some (.int .i64 (e : Int)):=h.held.at_ rfl
theorem Rdr.c3 : w.cell? ⟨T,3,none⟩ = some v:=h.held.at_ rfl
theorem Rdr.c4 : w.cell? ⟨T,4,none⟩ = some (.int .i64 (g : Int)):=h.held.at_ rfl
theorem Rdr.thawed (p : Nat) : w.frozen? ⟨T,p,none⟩ = false:=h.held.thawed p
theorem Rdr.apart : v.ownBlock ≠ some T:=h.held.not_own h.own (by decide)
theorem Rdr.bldr : Bldr w B T 3 v ns g:=⟨⟨_,_,h.held,by decide,rfl,rfl⟩,h.own,h.len,h.grp,h.bhs⟩
theorem Rdr.built (hg : g ≤ g') (hb : Bldr w' B T 3 v' ns' g') (hc : Chg w w' T 3 v v') : Rdr w' B T A n c l v' ns' g' i cl e:=by
 obtain ⟨cs',h1,s1,n1⟩:=hc.near _ _ h.held
 obtain ⟨t,cs,h2,hne,a0,a1⟩:=hb.obj
 have e0 : t = 70 ∧ cs = cs':=by
  unfold Held at h1 h2
  rw [h1] at h2
  injection h2 with h2
  injection h2 with q1 q2
  exact ⟨q2.symm,q1.symm⟩
 obtain ⟨rfl,rfl⟩:=e0
 have hcs : cs = rdrC v' g' A n c i cl e:=by
  apply Array.ext_getElem?
  intro j
  by_cases h3 : j = 3
  · subst h3;exact a0
  by_cases h4 : j = 4
  · subst h4;exact a1
  rw [n1 j h3 h4]
  match j,h3,h4 with
  | 0,_,_ => rfl
  | 1,_,_ => rfl
  | 2,_,_ => rfl
  | 3,h3,_ => exact absurd rfl h3
  | 4,_,h4 => exact absurd rfl h4
  | j + 5,_,_ => simp [rdrC]
 subst hcs
 exact ⟨h1,hb.own,hb.len,hb.grp,h.base,h.le,fun q hq => ⟨(h.clg q hq).1,Nat.le_trans (h.clg q hq).2 hg⟩,h.txt.below (h.below hc.chp)⟩
theorem Rdr.own_cell (p : Nat) (u : Value) : (w.setCell ⟨T,p,none⟩ u).ownsRow B 43 10 v ns.length (nodsL ns):=by
 have hb : Below 0 w (w.setCell ⟨T,p,none⟩ u):=(Below.refl 0 w).setCell (Nat.zero_le _) u
 exact h.own.kept (v:=v) ⟨hb.os,hb.tape,hb.output,hb.size,fun k _ hk => Below.heap_setCell w _ u k (fun e => hk (by rw [e]))⟩ (.inr h.apart)
theorem Rdr.txt_cell (p : Nat) (u : Value) : Txt (w.setCell ⟨T,p,none⟩ u) B A n c l:=h.txt.below (h.below (ChP.store w T p u v))
theorem Rdr.goto {j : Nat} (hj : j ≤ n) {z : Int} (hz : z = (j : Int)) : Rdr (w.setCell ⟨T,1,none⟩ (.int .i64 z)) B T A n c l v ns g j cl e:=by
 subst hz
 exact ⟨h.held.put 1 _,h.own_cell _ _,h.len,h.grp,h.base,hj,h.clg,h.txt_cell _ _⟩
theorem Rdr.erred (q : Nat) {z : Int} (hz : z = (q : Int)) : Rdr (w.setCell ⟨T,2,none⟩ (.int .i64 z)) B T A n c l v ns g i cl q:=by
 subst hz
 exact ⟨h.held.put 2 _,h.own_cell _ _,h.len,h.grp,h.base,h.le,h.clg,h.txt_cell _ _⟩
theorem Rdr.opened (hg : g < 9) {z : Int} (hz : z = (g : Int) + 1) : Rdr (w.setCell ⟨T,4,none⟩ (.int .i64 z)) B T A n c l v ns (g + 1) i cl e:=by
 subst hz
 exact ⟨h.held.put 4 _,h.own_cell _ _,h.len,by omega,h.base,h.le,fun q hq => ⟨(h.clg q hq).1,by have:=(h.clg q hq).2;omega⟩,h.txt_cell _ _⟩
theorem Rdr.ended {q : Nat} (h1 : 1 ≤ q) (h9 : q ≤ g) : Rdr (w.setCell ⟨T,5 + q,none⟩ (.bool true)) B T A n c l v ns g i (setQ cl q) e:=by
 refine ⟨?_,h.own_cell _ _,h.len,h.grp,h.base,h.le,fun x hx => ?_,h.txt_cell _ _⟩
 · have:=h.held.put (5 + q) (.bool true)
   have hg:=h.grp
   rwa [show (rdrC v g A n c i cl e).setIfInBounds (5 + q) (.bool true) = rdrC v g A n c i (setQ cl q) e from by
    obtain rfl | rfl | rfl | rfl | rfl | rfl | rfl | rfl | rfl : q = 1 ∨ q = 2 ∨ q = 3 ∨ q = 4 ∨ q = 5 ∨ q = 6 ∨ q = 7 ∨ q = 8 ∨ q = 9:=by omega
    all_goals rfl] at this
 · unfold setQ at hx
   split at hx
   · omega
   · exact h.clg x hx
theorem Rdr.cQ (q : Nat) (h9 : q ≤ 9) : w.cell? ⟨T,5 + q,none⟩ = some (.bool (cl q)):=by
 refine h.held.at_ ?_
 obtain rfl | rfl | rfl | rfl | rfl | rfl | rfl | rfl | rfl | rfl : q = 0 ∨ q = 1 ∨ q = 2 ∨ q = 3 ∨ q = 4 ∨ q = 5 ∨ q = 6 ∨ q = 7 ∨ q = 8 ∨ q = 9:=by omega
 all_goals rfl
theorem Rdr.byte {k : Nat} {x : UInt8} (hk : l[k]? = some x) : ∃ ad,A = some ad ∧ w.cell? (ad.add k) = some (.int .u8 (x.toNat : Int)):=by
 obtain ⟨hlt,hx⟩:=List.getElem?_eq_some_iff.1 hk
 obtain ⟨ad,h1,h2,h3⟩:=h.txt.2.2.2.2.2.1.at_ hlt
 rw [hx] at h3
 exact ⟨ad,h1,h3⟩
end
section
variable {w : World} {B T : Nat} {A : Option Addr} {n c : Nat} {l : List UInt8} {v : Value} {ns : List Nod} {g i : Nat} {cl : Nat → Bool} {e : Nat} (h : Rdr w B T A n c l v ns g i cl e)
include h
theorem next_at (k : Nat) (kk : Int) (hk : kk = (k : Int)) (hk2 : k ≤ 2) : Calls Tryz.prog 51 #[.pointer (some ⟨T,0,none⟩),.int .i64 kk] w fun e w' => e = .returned (.int .i64 (nx l (i + k))) ∧ Below w.heap.size w w':=by
 have c0:=h.c0
 have c1:=h.c1
 have hle:=h.le
 have hns : n ≤ 1000000:=h.txt.2.2.2.1
 have hnc : n ≤ c:=h.inp.2.1
 have hb0:=lhi (Below.refl w.heap.size w)
 obtain ⟨p,hp⟩ : ∃ p,p = i + k:=⟨_,rfl⟩
 have hw : IntKind.i64.wrap ((i : Int) + kk) = (p : Int):=by rw [IntWalk.i64_in _ (by omega)];omega
 have hp0 : (0 : Int) ≤ (p : Int):=by omega
 rw [← hp]
 by_cases hlt : p < n
 · obtain ⟨x,hx⟩ : ∃ x,l[p]? = some x:=⟨_,List.getElem?_eq_getElem (by have:=h.hn;omega)⟩
   obtain ⟨ad,rfl,hcell⟩:=h.byte hx
   rw [nx_some hx]
   have hx1 : x.toNat < 256:=UInt8.toNat_lt x
   have hz : IntKind.i64.wrap (x.toNat : Int) = (x.toNat : Int):=IntWalk.i64_in _ (by omega)
   clear hx
   generalize (x.toNat : Int) = z at *
   have hp1 : (p : Int) < (n : Int):=by omega
   clear h hk hp hle
   go_enter Tryz.func51,Tryz.ntmps51
   go_wp2
   go_quiet (fail)
   go_wp2
   go_quiet (fail)
   go_wp2
   go_ret
   exact ⟨rfl,by first | exact below_drewN hb0.out _ | exact below_drewN (below_drewN hb0.out _) _⟩
 · rw [nx_none (by have:=h.hn;omega)]
   clear h hk hp
   go_enter Tryz.func51,Tryz.ntmps51
   go_wp2
   go_quiet (fail)
   go_wp2
   go_ret
   exact ⟨rfl,by first | exact below_drewN hb0.out _ | exact below_drewN (below_drewN hb0.out _) _⟩
end
end Go.Proofs.YtonjnagcdnmcpaaGreatDoor
