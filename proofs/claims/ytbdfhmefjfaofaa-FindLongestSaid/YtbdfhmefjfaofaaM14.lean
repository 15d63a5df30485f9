/- Contracts and plain facts: M14. -/
import Derived.Test.YtbdfhmefjfaofaaM13
set_option linter.unusedVariables false
set_option linter.unusedSimpArgs false
set_option maxRecDepth 100000
set_option maxHeartbeats 32000000
namespace Go.Proofs.Ytbdfhmefjfaofaa
open Go.RowKit
inductive Fst12 (ns : List Nod) (t : List UInt8) (n : Int) (last : Int) : Nat → Int → Option (Option Spn × Int) → Prop
 | over {a : Nat} {M : Int} (hl : (a : Int) ≤ last) (hx : Told11 ns t n a M none) : Fst12 ns t n last a M none
 | hit {a : Nat} {M left : Int} {s : Spn} (hl : (a : Int) ≤ last) (hx : Told11 ns t n a M (some (some s,left))) : Fst12 ns t n last a M (some (some s,left))
 | miss {a : Nat} {M left : Int} {r : Option (Option Spn × Int)} (hl : (a : Int) ≤ last) (hx : Told11 ns t n a M (some (none,left))) (hr : Fst12 ns t n last (a + 1) left r) : Fst12 ns t n last a M r
 | ends {a : Nat} {M : Int} (hl : last < (a : Int)) : Fst12 ns t n last a M (some (none,M))
inductive All12 (ns : List Nod) (t : List UInt8) (n : Int) (last : Int) : Nat → Int → Int → Option (List Spn × Int) → Prop
 | over {a : Nat} {e M : Int} (hl : (a : Int) ≤ last) (hx : Told11 ns t n a M none) : All12 ns t n last a e M none
 | miss {a : Nat} {e M left : Int} {r : Option (List Spn × Int)} (hl : (a : Int) ≤ last) (hx : Told11 ns t n a M (some (none,left))) (hr : All12 ns t n last (a + 1) e left r) : All12 ns t n last a e M r
 | drop {a : Nat} {e M left : Int} {s : Spn} {r : Option (List Spn × Int)} (hl : (a : Int) ≤ last) (hx : Told11 ns t n a M (some (some s,left))) (he : (s 0).2 ≤ e) (hr : All12 ns t n last (a + 1) e left r) : All12 ns t n last a e M r
 | take {a : Nat} {e M left : Int} {s : Spn} {b : Nat} {r : Option (List Spn × Int)} (hl : (a : Int) ≤ last) (hx : Told11 ns t n a M (some (some s,left))) (he : e < (s 0).2) (hb : (b : Int) = max ((a : Int) + 1) (s 0).2) (hr : All12 ns t n last b (s 0).2 left r) : All12 ns t n last a e M (r.map fun x => (s :: x.1,x.2))
 | ends {a : Nat} {e M : Int} (hl : last < (a : Int)) : All12 ns t n last a e M (some ([],M))
section
variable {ns : List Nod} {t : List UInt8} {n last : Int}
theorem Fst12.det {a : Nat} {M : Int} {x y : Option (Option Spn × Int)} (h : Fst12 ns t n last a M x) (k : Fst12 ns t n last a M y) : y = x:=by
 induction h with
 | over hl hx =>
  cases k with
  | over => rfl
  | hit _ kx => have:=hx.det kx;cases this
  | miss _ kx _ => have:=hx.det kx;cases this
  | ends kl => omega
 | hit hl hx =>
  cases k with
  | over _ kx => have:=hx.det kx;cases this
  | hit _ kx => have:=hx.det kx;simp only [Option.some.injEq,Prod.mk.injEq] at this;obtain ⟨rfl,rfl⟩:=this;rfl
  | miss _ kx _ => have:=hx.det kx;simp at this
  | ends kl => omega
 | miss hl hx _ ih =>
  cases k with
  | over _ kx => have:=hx.det kx;cases this
  | hit _ kx => have:=hx.det kx;simp at this
  | miss _ kx kr => have:=hx.det kx;simp only [Option.some.injEq,Prod.mk.injEq,true_and] at this;subst this;exact ih kr
  | ends kl => omega
 | ends hl =>
  cases k with
  | over kl => omega
  | hit kl => omega
  | miss kl => omega
  | ends => rfl
theorem All12.det {a : Nat} {e M : Int} {x y : Option (List Spn × Int)} (h : All12 ns t n last a e M x) (k : All12 ns t n last a e M y) : y = x:=by
 induction h generalizing y with
 | over hl hx =>
  cases k with
  | over => rfl
  | miss _ kx _ => have:=hx.det kx;cases this
  | drop _ kx _ _ => have:=hx.det kx;cases this
  | take _ kx _ _ _ => have:=hx.det kx;cases this
  | ends kl => omega
 | miss hl hx _ ih =>
  cases k with
  | over _ kx => have:=hx.det kx;cases this
  | miss _ kx kr => have:=hx.det kx;simp only [Option.some.injEq,Prod.mk.injEq,true_and] at this;subst this;exact ih kr
  | drop _ kx _ _ => have:=hx.det kx;simp at this
  | take _ kx _ _ _ => have:=hx.det kx;simp at this
  | ends kl => omega
 | drop hl hx he _ ih =>
  cases k with
  | over _ kx => have:=hx.det kx;cases this
  | miss _ kx kr => have:=hx.det kx;simp at this
  | drop _ kx _ kr => have:=hx.det kx;simp only [Option.some.injEq,Prod.mk.injEq] at this;obtain ⟨rfl,rfl⟩:=this;exact ih kr
  | take _ kx ke _ _ => have:=hx.det kx;simp only [Option.some.injEq,Prod.mk.injEq] at this;obtain ⟨rfl,rfl⟩:=this;omega
  | ends kl => omega
 | take hl hx he hb _ ih =>
  cases k with
  | over _ kx => have:=hx.det kx;cases this
  | miss _ kx kr => have:=hx.det kx;simp at this
  | drop _ kx ke kr => have:=hx.det kx;simp only [Option.some.injEq,Prod.mk.injEq] at this;obtain ⟨rfl,rfl⟩:=this;omega
  | take _ kx ke kb kr =>
   have:=hx.det kx
   simp only [Option.some.injEq,Prod.mk.injEq] at this
   obtain ⟨rfl,rfl⟩:=this
   have hbb:=kb.trans hb.symm
   have hbn:=Int.ofNat.inj hbb
   subst hbn
   rw [ih kr]
  | ends kl => omega
 | ends hl =>
  cases k with
  | over kl => omega
  | miss kl => omega
  | drop kl => omega
  | take kl => omega
  | ends => rfl
end
inductive Pre12 (ns : List Nod) (t : List UInt8) (n : Int) (last : Int) (a0 : Nat) (e0 M0 : Int) : List Spn → Nat → Int → Int → Prop
 | refl : Pre12 ns t n last a0 e0 M0 [] a0 e0 M0
 | miss {l : List Spn} {a : Nat} {e M left : Int} (h : Pre12 ns t n last a0 e0 M0 l a e M) (hl : (a : Int) ≤ last) (hx : Told11 ns t n a M (some (none,left))) : Pre12 ns t n last a0 e0 M0 l (a + 1) e left
 | drop {l : List Spn} {a : Nat} {e M left : Int} {s : Spn} (h : Pre12 ns t n last a0 e0 M0 l a e M) (hl : (a : Int) ≤ last) (hx : Told11 ns t n a M (some (some s,left))) (he : (s 0).2 ≤ e) : Pre12 ns t n last a0 e0 M0 l (a + 1) e left
 | take {l : List Spn} {a : Nat} {e M left : Int} {s : Spn} {b : Nat} (h : Pre12 ns t n last a0 e0 M0 l a e M) (hl : (a : Int) ≤ last) (hx : Told11 ns t n a M (some (some s,left))) (he : e < (s 0).2) (hb : (b : Int) = max ((a : Int) + 1) (s 0).2) : Pre12 ns t n last a0 e0 M0 (l ++ [s]) b (s 0).2 left
section
variable {ns : List Nod} {t : List UInt8} {n last : Int} {a0 : Nat} {e0 M0 : Int}
theorem map_cons12 (l : List Spn) (s : Spn) (r : Option (List Spn × Int)) : ((r.map fun x => (s :: x.1,x.2)).map fun x => (l ++ x.1,x.2)) = r.map fun x => (l ++ [s] ++ x.1,x.2):=by cases r <;> simp
theorem Pre12.all {l : List Spn} {a : Nat} {e M : Int} (h : Pre12 ns t n last a0 e0 M0 l a e M) : ∀ r,All12 ns t n last a e M r → All12 ns t n last a0 e0 M0 (r.map fun x => (l ++ x.1,x.2)):=by
 induction h with
 | refl => intro r hr;cases r <;> simpa using hr
 | miss _ hl hx ih => intro r hr;exact ih r (.miss hl hx hr)
 | drop _ hl hx he ih => intro r hr;exact ih r (.drop hl hx he hr)
 | take _ hl hx he hb ih => intro r hr;rw [← map_cons12];exact ih _ (.take hl hx he hb hr)
theorem Pre12.first {l : List Spn} {a : Nat} {e M : Int} (h : Pre12 ns t n last a0 (-1) M0 l a e M) (hsp : ∀ (a : Nat) (M left : Int) (s : Spn),(a : Int) ≤ last → Told11 ns t n a M (some (some s,left)) → 0 ≤ (s 0).2) : l = [] → e = -1 ∧ ∀ r,Fst12 ns t n last a M r → Fst12 ns t n last a0 M0 r:=by
 induction h with
 | refl => exact fun _ => ⟨rfl,fun r hr => hr⟩
 | miss _ hl hx ih => exact fun h0 => ⟨(ih h0).1,fun r hr => (ih h0).2 r (.miss hl hx hr)⟩
 | drop _ hl hx he ih => intro h0;have h1:=(ih h0).1;have h2:=hsp _ _ _ _ hl hx;omega
 | take _ _ _ _ _ _ => intro h0;simp at h0
end
def spnV (x : Int × Int) : Value:=.agg #[.int .i64 x.1,.int .i64 x.2]
def hitL (s : Spn) : List Value:=[.int .i64 (s 0).1,.int .i64 (s 0).2,.int .i64 (s 1).1,.int .i64 (s 1).2,.int .i64 (s 2).1,.int .i64 (s 2).2,.int .i64 (s 3).1,.int .i64 (s 3).2,.int .i64 (s 4).1,.int .i64 (s 4).2,.int .i64 (s 5).1,.int .i64 (s 5).2,.int .i64 (s 6).1,.int .i64 (s 6).2,.int .i64 (s 7).1,.int .i64 (s 7).2,.int .i64 (s 8).1,.int .i64 (s 8).2,.int .i64 (s 9).1,.int .i64 (s 9).2]
def hitC (s : Spn) : Array Value:=(hitL s).toArray
def hitV (s : Spn) : Value:=.agg (hitC s)
def sp00 : Spn:=fun _ => (0,0)
def spNo : Spn:=fun _ => (-1,-1)
theorem hitL_len (s : Spn) : (hitL s).length = 20:=rfl
theorem hitC_size (s : Spn) : (hitC s).size = 20:=rfl
theorem hit_one (s : Spn) : ∀ v ∈ hitL s,v.oneCell' = true:=by simp [hitL,Value.oneCell']
theorem hitL_from (s : Spn) {g : Nat} (h : g < 10) : (hitL s)[2 * g]? = some (.int .i64 (s g).1):=by
 have : g = 0 ∨ g = 1 ∨ g = 2 ∨ g = 3 ∨ g = 4 ∨ g = 5 ∨ g = 6 ∨ g = 7 ∨ g = 8 ∨ g = 9:=by omega
 rcases this with rfl | rfl | rfl | rfl | rfl | rfl | rfl | rfl | rfl | rfl <;> rfl
theorem hitL_to (s : Spn) {g : Nat} (h : g < 10) : (hitL s)[2 * g + 1]? = some (.int .i64 (s g).2):=by
 have : g = 0 ∨ g = 1 ∨ g = 2 ∨ g = 3 ∨ g = 4 ∨ g = 5 ∨ g = 6 ∨ g = 7 ∨ g = 8 ∨ g = 9:=by omega
 rcases this with rfl | rfl | rfl | rfl | rfl | rfl | rfl | rfl | rfl | rfl <;> rfl
theorem hitL_set (s : Spn) {g : Nat} (h : g < 10) (x : Int × Int) : hitL (setSp s g x) = ((hitL s).set (2 * g) (.int .i64 x.1)).set (2 * g + 1) (.int .i64 x.2):=by
 have : g = 0 ∨ g = 1 ∨ g = 2 ∨ g = 3 ∨ g = 4 ∨ g = 5 ∨ g = 6 ∨ g = 7 ∨ g = 8 ∨ g = 9:=by omega
 rcases this with rfl | rfl | rfl | rfl | rfl | rfl | rfl | rfl | rfl | rfl <;> rfl
def ansS : Option Spn → Spn
 | none => sp00
 | some m => m
def InS (s : Spn) : Prop:=∀ g,g < 10 → (-(2 : Int) ^ 63 ≤ (s g).1 ∧ (s g).1 < 2 ^ 63) ∧ -(2 : Int) ^ 63 ≤ (s g).2 ∧ (s g).2 < 2 ^ 63
theorem InS.set {s : Spn} (h : InS s) {g : Nat} {x : Int × Int} (hx : (-(2 : Int) ^ 63 ≤ x.1 ∧ x.1 < 2 ^ 63) ∧ -(2 : Int) ^ 63 ≤ x.2 ∧ x.2 < 2 ^ 63) : InS (setSp s g x):=fun k hk => by
 unfold setSp
 by_cases e : k = g
 · rw [if_pos e];exact hx
 · rw [if_neg e];exact h k hk
def Src (w : World) (A : Option Addr) (news : List Value) : Prop:=∀ j u,news[j]? = some u → ∃ ad,A = some ad ∧ w.cell? (ad.add j) = some u
theorem Src.nil {w : World} {news : List Value} (h : Src w none news) : news = []:=by
 cases news with
 | nil => rfl
 | cons x r => obtain ⟨ad,h,_⟩:=h 0 x rfl;cases h
theorem Vals.src {w : World} {B : Nat} {A : Option Addr} {xs : List Value} (h : Vals w B A xs) : Src w A xs:=fun j u hj => by
 obtain ⟨hlt,rfl⟩:=List.getElem?_eq_some_iff.1 hj
 obtain ⟨ad,h1,_,h2⟩:=h j hlt
 exact ⟨ad,h1,h2⟩
section
variable {P : Program} {w : World}
theorem run_append_none (base : Nat) (t ty e : TypeId) (i : TypeInfo) (size : Nat) (ht : P.underlying t = some (.slice e)) (hi : P.info? e = some i)
    (v : Value) (n : Nat) (xs : List Value) (hown : w.ownsRow base e size v n xs) (c : Nat) : (Builtin.append_ #[t,t] ty #[v,.slice none 0 c]).run P w = .ok v w:=by
 obtain ⟨_,⟨rfl,rfl⟩ | ⟨g,cap,cur,rfl,_,_,hnc,_⟩⟩:=hown
 · simp [Builtin.append_,run_underlying ht,sizeOf,typeInfo,hi,Builtin.lenOf,Builtin.firstCells]
 · simp [Builtin.append_,run_underlying ht,sizeOf,typeInfo,hi,Builtin.lenOf,Builtin.firstCells,hnc,storeCells]
theorem run_append_at (base : Nat) (t ty e : TypeId) (i : TypeInfo) (z : Value) (size bytes : Nat) (ht : P.underlying t = some (.slice e)) (hi : P.info? e = some i) (hz : i.zero = some z)
    (hi1 : i.size = size) (hib : i.bytes = bytes) (hz1 : z.cells.size = size) (hsz : 0 < size) (v : Value) (n : Nat) (xs : List Value) (hown : w.ownsRow base e size v n xs)
    (A : Option Addr) (m c : Nat) (news : List Value) (hl : news.length = m * size) (hv : Src w A news) (h1 : ∀ u ∈ news,u.oneCell' = true)
    (hlen : n + m ≤ maxLen) (hbytes : (n + m) * bytes ≤ 140737488355328) (hbase : base ≤ w.heap.size) :
    ∃ v' w',(Builtin.append_ #[t,t] ty #[v,.slice A m c]).run P w = .ok v' w' ∧ w'.ownsRow base e size v' (n + m) (xs ++ news) ∧ w.grownBy w' v.ownBlock ∧
     (∀ k,v'.ownBlock = some k → v.ownBlock = some k ∨ w.heap.size ≤ k):=by
 cases A with
 | none =>
  obtain rfl:=hv.nil
  have hm : m = 0:=by
   rcases Nat.eq_zero_or_pos m with h | h
   · exact h
   · have:=Nat.mul_pos h hsz;rw [← hl] at this;simp at this
  subst hm
  exact ⟨v,w,run_append_none base t ty e i size ht hi v n xs hown c,by simpa using hown,World.grownBy.refl w _,fun _ h => .inl h⟩
 | some a =>
  have hnews : ∀ j u,news[j]? = some u → w.cell? (a.add j) = some u:=fun j u hj => by
   obtain ⟨ad,h,hc⟩:=hv j u hj
   injection h with h
   subst h
   exact hc
  obtain ⟨v',w',hrun,h2,h3,h4⟩:=run_append_own (P:=P) w base t ty e i z size bytes ht hi hz hi1 hib hz1 hsz v n xs hown a m c news hl hnews h1 hlen hbytes hbase
  refine ⟨v',w',hrun,h2,h3,fun k hk => ?_⟩
  subst hi1
  subst hib
  have h63 : n + m ≤ 9223372036854775807:=by simp only [maxLen] at hlen;omega
  rcases hown.2 with ⟨rfl,rfl⟩ | ⟨g,cap,cur,rfl,hbg,hg,hnc,hcm,hcs,htake⟩
  · by_cases hm : m = 0
    · rw [h4.2 ⟨rfl,hm⟩] at hk;cases hk
    · have hr:=Go.run_append_nil (P:=P) w t ty e i z ht hi hz a m c news hl hnews (by omega) (by omega) (by have hb:=hbytes;simp only [Nat.zero_add] at hb;omega)
      rw [hr] at hrun
      injection hrun with hrun _
      rw [← hrun] at hk
      injection hk with hk
      exact .inr (Nat.le_of_eq hk)
  · by_cases hroom : n + m ≤ cap
    · have hfit : n * i.size + news.length ≤ cur.size:=by rw [hl,hcs,← Nat.add_mul];exact Nat.mul_le_mul_right _ hroom
      have hr:=run_append_room (P:=P) w t ty e i ht hi g n cap cur hg a m c news hl hnews h1 hroom hfit
      rw [hr] at hrun
      injection hrun with hrun _
      rw [← hrun] at hk
      exact .inl hk
    · have hr:=run_append_grow (P:=P) w t ty e i z ht hi hz ⟨g,0,none⟩ n cap xs hown.1 (hown.cells (g:=g) rfl) a m c news hl hnews (by omega) (by omega) (growslice_fits (by omega) hbytes)
      rw [hr] at hrun
      injection hrun with hrun _
      rw [← hrun] at hk
      injection hk with hk
      exact .inr (Nat.le_of_eq hk)
end
end Go.Proofs.Ytbdfhmefjfaofaa
