/- Contracts and plain facts: M10. -/
import Derived.Test.YtjopmieaikgbcaaM09
set_option linter.unusedVariables false
set_option linter.unusedSimpArgs false
set_option maxRecDepth 100000
set_option maxHeartbeats 32000000
namespace Go.Proofs.Ytjopmieaikgbcaa
open Go.RowKit
def spnV (x : Int × Int) : Value:=.agg #[.int .i64 x.1,.int .i64 x.2]
def hitL (s : Spn) : List Value:=[.int .i64 (s 0).1,.int .i64 (s 0).2,.int .i64 (s 1).1,.int .i64 (s 1).2,.int .i64 (s 2).1,.int .i64 (s 2).2,.int .i64 (s 3).1,.int .i64 (s 3).2,.int .i64 (s 4).1,.int .i64 (s 4).2,.int .i64 (s 5).1,.int .i64 (s 5).2,.int .i64 (s 6).1,.int .i64 (s 6).2,.int .i64 (s 7).1,.int .i64 (s 7).2,.int .i64 (s 8).1,.int .i64 (s 8).2,.int .i64 (s 9).1,.int .i64 (s 9).2]
def hitC (s : Spn) : Array Value:=(hitL s).toArray
def hitV (s : Spn) : Value:=.agg (hitC s)
def sp00 : Spn:=fun _ => (0,0)
def spNo : Spn:=fun _ => (-1,-1)
theorem hitL_len (s : Spn) : (hitL s).length = 20:=rfl
theorem hitC_size (s : Spn) : (hitC s).size = 20:=rfl
theorem hit_one (s : Spn) : ∀ v ∈ hitL s,v.oneCell' = true:=by simp [hitL,Value.oneCell']
theorem hitL_from (s : Spn) {g : Nat} (h : g < 10) : (hitL s)[2 * g]? = some (.int .i64 (s g).1):=by
 have : g = 0 ∨ g = 1 ∨ g = 2 ∨ g = 3 ∨ g = 4 ∨ g = 5 ∨ g = 6 ∨ g = 7 ∨ g = 8 ∨ g = 9:=by omega
 rcases this with rfl | rfl | rfl | rfl | rfl | rfl | rfl | rfl | rfl | rfl <;> rfl
theorem hitL_to (s : Spn) {g : Nat} (h : g < 10) : (hitL s)[2 * g + 1]? = some (.int .i64 (s g).2):=by
 have : g = 0 ∨ g = 1 ∨ g = 2 ∨ g = 3 ∨ g = 4 ∨ g = 5 ∨ g = 6 ∨ g = 7 ∨ g = 8 ∨ g = 9:=by omega
 rcases this with rfl | rfl | rfl | rfl | rfl | rfl | rfl | rfl | rfl | rfl <;> rfl
theorem hitL_set (s : Spn) {g : Nat} (h : g < 10) (x : Int × Int) : hitL (setSp s g x) = ((hitL s).set (2 * g) (.int .i64 x.1)).set (2 * g + 1) (.int .i64 x.2):=by
 have : g = 0 ∨ g = 1 ∨ g = 2 ∨ g = 3 ∨ g = 4 ∨ g = 5 ∨ g = 6 ∨ g = 7 ∨ g = 8 ∨ g = 9:=by omega
 rcases this with rfl | rfl | rfl | rfl | rfl | rfl | rfl | rfl | rfl | rfl <;> rfl
def ansS : Option Spn → Spn
 | none => sp00
 | some m => m
def InS (s : Spn) : Prop:=∀ g,g < 10 → (-(2 : Int) ^ 63 ≤ (s g).1 ∧ (s g).1 < 2 ^ 63) ∧ -(2 : Int) ^ 63 ≤ (s g).2 ∧ (s g).2 < 2 ^ 63
theorem InS.set {s : Spn} (h : InS s) {g : Nat} {x : Int × Int} (hx : (-(2 : Int) ^ 63 ≤ x.1 ∧ x.1 < 2 ^ 63) ∧ -(2 : Int) ^ 63 ≤ x.2 ∧ x.2 < 2 ^ 63) : InS (setSp s g x):=fun k hk => by
 unfold setSp
 by_cases e : k = g
 · rw [if_pos e];exact hx
 · rw [if_neg e];exact h k hk
def Src (w : World) (A : Option Addr) (news : List Value) : Prop:=∀ j u,news[j]? = some u → ∃ ad,A = some ad ∧ w.cell? (ad.add j) = some u
theorem Src.nil {w : World} {news : List Value} (h : Src w none news) : news = []:=by
 cases news with
 | nil => rfl
 | cons x r => obtain ⟨ad,h,_⟩:=h 0 x rfl;cases h
theorem Vals.src {w : World} {B : Nat} {A : Option Addr} {xs : List Value} (h : Vals w B A xs) : Src w A xs:=fun j u hj => by
 obtain ⟨hlt,rfl⟩:=List.getElem?_eq_some_iff.1 hj
 obtain ⟨ad,h1,_,h2⟩:=h j hlt
 exact ⟨ad,h1,h2⟩
section
variable {P : Program} {w : World}
theorem run_append_none (base : Nat) (t ty e : TypeId) (i : TypeInfo) (size : Nat) (ht : P.underlying t = some (.slice e)) (hi : P.info? e = some i)
    (v : Value) (n : Nat) (xs : List Value) (hown : w.ownsRow base e size v n xs) (c : Nat) : (Builtin.append_ #[t,t] ty #[v,.slice none 0 c]).run P w = .ok v w:=by
 obtain ⟨_,⟨rfl,rfl⟩ | ⟨g,cap,cur,rfl,_,_,hnc,_⟩⟩:=hown
 · simp [Builtin.append_,run_underlying ht,sizeOf,typeInfo,hi,Builtin.lenOf,Builtin.firstCells]
 · simp [Builtin.append_,run_underlying ht,sizeOf,typeInfo,hi,Builtin.lenOf,Builtin.firstCells,hnc,storeCells]
theorem run_append_at (base : Nat) (t ty e : TypeId) (i : TypeInfo) (z : Value) (size bytes : Nat) (ht : P.underlying t = some (.slice e)) (hi : P.info? e = some i) (hz : i.zero = some z)
    (hi1 : i.size = size) (hib : i.bytes = bytes) (hz1 : z.cells.size = size) (hsz : 0 < size) (v : Value) (n : Nat) (xs : List Value) (hown : w.ownsRow base e size v n xs)
    (A : Option Addr) (m c : Nat) (news : List Value) (hl : news.length = m * size) (hv : Src w A news) (h1 : ∀ u ∈ news,u.oneCell' = true)
    (hlen : n + m ≤ maxLen) (hbytes : (n + m) * bytes ≤ 140737488355328) (hbase : base ≤ w.heap.size) :
    ∃ v' w',(Builtin.append_ #[t,t] ty #[v,.slice A m c]).run P w = .ok v' w' ∧ w'.ownsRow base e size v' (n + m) (xs ++ news) ∧ w.grownBy w' v.ownBlock ∧
     (∀ k,v'.ownBlock = some k → v.ownBlock = some k ∨ w.heap.size ≤ k):=by
 cases A with
 | none =>
  obtain rfl:=hv.nil
  have hm : m = 0:=by
   rcases Nat.eq_zero_or_pos m with h | h
   · exact h
   · have:=Nat.mul_pos h hsz;rw [← hl] at this;simp at this
  subst hm
  exact ⟨v,w,run_append_none base t ty e i size ht hi v n xs hown c,by simpa using hown,World.grownBy.refl w _,fun _ h => .inl h⟩
 | some a =>
  have hnews : ∀ j u,news[j]? = some u → w.cell? (a.add j) = some u:=fun j u hj => by
   obtain ⟨ad,h,hc⟩:=hv j u hj
   injection h with h
   subst h
   exact hc
  obtain ⟨v',w',hrun,h2,h3,h4⟩:=run_append_own (P:=P) w base t ty e i z size bytes ht hi hz hi1 hib hz1 hsz v n xs hown a m c news hl hnews h1 hlen hbytes hbase
  refine ⟨v',w',hrun,h2,h3,fun k hk => ?_⟩
  subst hi1
  subst hib
  have h63 : n + m ≤ 9223372036854775807:=by simp only [maxLen] at hlen;omega
  rcases hown.2 with ⟨rfl,rfl⟩ | ⟨g,cap,cur,rfl,hbg,hg,hnc,hcm,hcs,htake⟩
  · by_cases hm : m = 0
    · rw [h4.2 ⟨rfl,hm⟩] at hk;cases hk
    · have hr:=Go.run_append_nil (P:=P) w t ty e i z ht hi hz a m c news hl hnews (by omega) (by omega) (by have hb:=hbytes;simp only [Nat.zero_add] at hb;omega)
      rw [hr] at hrun
      injection hrun with hrun _
      rw [← hrun] at hk
      injection hk with hk
      exact .inr (Nat.le_of_eq hk)
  · by_cases hroom : n + m ≤ cap
    · have hfit : n * i.size + news.length ≤ cur.size:=by rw [hl,hcs,← Nat.add_mul];exact Nat.mul_le_mul_right _ hroom
      have hr:=run_append_room (P:=P) w t ty e i ht hi g n cap cur hg a m c news hl hnews h1 hroom hfit
      rw [hr] at hrun
      injection hrun with hrun _
      rw [← hrun] at hk
      exact .inl hk
    · have hr:=run_append_grow (P:=P) w t ty e i z ht hi hz ⟨g,0,none⟩ n cap xs hown.1 (hown.cells (g:=g) rfl) a m c news hl hnews (by omega) (by omega) (growslice_fits (by omega) hbytes)
      rw [hr] at hrun
      injection hrun with hrun _
      rw [← hrun] at hk
      injection hk with hk
      exact .inr (Nat.le_of_eq hk)
theorem wpList_append_at {ops : Array Oper} {rest : List Oper} {o : Oper} {a : Act} {Q : Exit → Act → World → Prop} (hg : o.guard = none) (s x : Operand) (t : TypeId)
    (ho : o.op = .call { callee:=.builtin .append,args:=#[s,x],argTypes:=#[t,t] })
    (base : Nat) (e : TypeId) (i : TypeInfo) (z : Value) (size bytes : Nat) (ht : P.underlying t = some (.slice e)) (hi : P.info? e = some i) (hz : i.zero = some z)
    (hi1 : i.size = size) (hib : i.bytes = bytes) (hz1 : z.cells.size = size) (hsz : 0 < size) (v : Value) (n : Nat) (xs : List Value) (hs : a.eval s = v) (hown : w.ownsRow base e size v n xs)
    (A : Option Addr) (m c : Nat) (news : List Value) (hx : a.eval x = .slice A m c) (hl : news.length = m * size) (hv : Src w A news) (h1 : ∀ u ∈ news,u.oneCell' = true)
    (hlen : n + m ≤ maxLen) (hbytes : (n + m) * bytes ≤ 140737488355328) (hbase : base ≤ w.heap.size)
    (h : ∀ v' w',w'.ownsRow base e size v' (n + m) (xs ++ news) → w.grownBy w' v.ownBlock → (∀ k,v'.ownBlock = some k → v.ownBlock = some k ∨ w.heap.size ≤ k) → wpList P ops Q rest (a.put o.dst v') w') : wpList P ops Q (o :: rest) a w:=by
 refine wpList_plain hg fun K hK => ?_
 obtain ⟨v',w',hrun,h2,h3,h4⟩:=run_append_at (P:=P) (w:=w) base t o.type e i z size bytes ht hi hz hi1 hib hz1 hsz v n xs hown A m c news hl hv h1 hlen hbytes hbase
 unfold Oper.wp execOp
 simp only [ho,resolve,invoke,builtin,Sem.run_bind,Sem.run_pure,Result.andThen_ok,List.map_toArray,List.map_cons,List.map_nil,hs,hx,hrun]
 exact hK _ _ (h v' w' h2 h3 h4)
end
def TkC (ns : List Nod) (tk : Tsk) (k n t q : Int) : Prop :=
 match tk with
 | .node m => k = 0 ∧ n = m ∧ t = 0 ∧ q = 0
 | .gend g p => k = 1 ∧ (0 ≤ n ∧ n < ns.length) ∧ (ndA ns n).grp = g ∧ t = 0 ∧ q = (p : Int)
 | .times m j p => k = 2 ∧ n = m ∧ t = j ∧ q = (p : Int)
inductive RowAt (w : World) (ns : List Nod) : Value → List Tsk → Prop
 | nil : RowAt w ns (.pointer none) []
 | cons {b : Nat} {k n t q : Int} {pv : Value} {tk : Tsk} {r : List Tsk} (hc : Held w b 107 #[.int .i64 k,.int .i64 n,.int .i64 t,.int .i64 q,pv]) (ht : TkC ns tk k n t q) (hr : RowAt w ns pv r) : RowAt w ns (.pointer (some ⟨b,0,none⟩)) (tk :: r)
theorem RowAt.keep {w w' : World} {ns : List Nod} {pv : Value} {l : List Tsk} (h : RowAt w ns pv l) (hk : ∀ b cs,Held w b 107 cs → Held w' b 107 cs) : RowAt w' ns pv l:=by
 induction h with
 | nil => exact .nil
 | cons hc ht _ ih => exact .cons (hk _ _ hc) ht ih
theorem RowAt.far {w w' : World} {ns : List Nod} {pv : Value} {l : List Tsk} (h : RowAt w ns pv l) (hb : Below w.heap.size w w') : RowAt w' ns pv l:=h.keep fun b cs hc => hc.keep hb
def wayL (p : Pt) (pv : Value) : List Value :=
 [.int .i64 (p.i : Int),.int .i64 (p.sp 0).1,.int .i64 (p.sp 0).2,.int .i64 (p.sp 1).1,.int .i64 (p.sp 1).2,.int .i64 (p.sp 2).1,.int .i64 (p.sp 2).2,.int .i64 (p.sp 3).1,.int .i64 (p.sp 3).2,.int .i64 (p.sp 4).1,.int .i64 (p.sp 4).2,.int .i64 (p.sp 5).1,.int .i64 (p.sp 5).2,.int .i64 (p.sp 6).1,.int .i64 (p.sp 6).2,.int .i64 (p.sp 7).1,.int .i64 (p.sp 7).2,.int .i64 (p.sp 8).1,.int .i64 (p.sp 8).2,.int .i64 (p.sp 9).1,.int .i64 (p.sp 9).2,pv]
def wayC (p : Pt) (pv : Value) : Array Value:=(wayL p pv).toArray
theorem wayL_len (p : Pt) (pv : Value) : (wayL p pv).length = 22:=rfl
theorem wayL_spans (p : Pt) (pv : Value) : wayL p pv = .int .i64 (p.i : Int) :: (hitL p.sp ++ [pv]):=rfl
def PtrV (v : Value) : Prop:=∃ x,v = .pointer x
theorem RowAt.ptr {w : World} {ns : List Nod} {pv : Value} {l : List Tsk} (h : RowAt w ns pv l) : PtrV pv:=by cases h <;> exact ⟨_,rfl⟩
theorem wayL_one {p : Pt} {pv : Value} (h : PtrV pv) : ∀ u ∈ wayL p pv,u.oneCell' = true:=by
 obtain ⟨x,rfl⟩:=h
 simp [wayL,Value.oneCell']
theorem way_cells {p : Pt} {pv : Value} (h : PtrV pv) : (wayC p pv).all (·.oneCell') = true:=all_oneCell_toArray (wayL_one h)
theorem way_row (p : Pt) (pv q : Value) : (wayC p pv).setIfInBounds 21 q = wayC p q:=rfl
theorem way_goto (p : Pt) (pv : Value) (j : Nat) : (wayC p pv).setIfInBounds 0 (.int .i64 (j : Int)) = wayC ⟨j,p.sp⟩ pv:=rfl
theorem grown_of {w w1 : World} (h : Below w.heap.size w w1) (r : Option Nat) : w.grownBy w1 r:=⟨h.os,h.tape,h.output,h.size,fun k hk _ => h.block k hk⟩
theorem grown_then {w w1 w2 : World} {r : Option Nat} (h : w.grownBy w1 r) (hb : Below w1.heap.size w1 w2) : w.grownBy w2 r :=
 ⟨hb.os.trans h.os,hb.tape.trans h.tape,hb.output.trans h.output,Nat.le_trans h.size hb.size,fun k hk hne => (hb.block k (nll hk h.size)).trans (h.block k hk hne)⟩
theorem grown_cell (w : World) (b p : Nat) (u : Value) : w.grownBy (w.setCell ⟨b,p,none⟩ u) (some b):=by
 have hb : Below 0 w (w.setCell ⟨b,p,none⟩ u):=(Below.refl 0 w).setCell (Nat.zero_le _) u
 exact ⟨hb.os,hb.tape,hb.output,hb.size,fun k _ hne => Below.heap_setCell w _ u k (fun e => hne (by rw [e]))⟩
theorem grown_row {w : World} {b : Nat} (cs : Array Value) : w.grownBy (w.setRow b cs) (some b) :=
 ⟨rfl,rfl,rfl,by rw [size_setRow];exact nlr _,fun k _ hne => setRow_other w b k cs (fun e => hne (by rw [e]))⟩
abbrev Wt:=Value × Pt × List Tsk
def wyW (x : Wt) : Wy:=(x.2.2,x.2.1)
def wtsL (xs : List Wt) : List Value:=xs.flatMap fun x => wayL x.2.1 x.1
theorem wtsL_len (xs : List Wt) : (wtsL xs).length = xs.length * 22:=by
 induction xs with
 | nil => rfl
 | cons x xs ih => simp only [wtsL,List.flatMap_cons,lla,List.length_cons] at ih ⊢;rw [ih,wayL_len];omega
theorem wtsL_append (xs ys : List Wt) : wtsL (xs ++ ys) = wtsL xs ++ wtsL ys:=by simp [wtsL]
theorem wtsL_one (x : Wt) : wtsL [x] = wayL x.2.1 x.1:=by simp [wtsL]
def srchC (An : Option Addr) (nn cn : Nat) (At : Option Addr) (nt ct : Nat) (a left : Nat) (v : Value) (b : Option Spn) : Array Value :=
 #[.slice An nn cn,.slice At nt ct,.int .i64 (a : Int),.int .i64 (left : Int),v,
  .int .i64 (ansS b 0).1,.int .i64 (ansS b 0).2,.int .i64 (ansS b 1).1,.int .i64 (ansS b 1).2,.int .i64 (ansS b 2).1,.int .i64 (ansS b 2).2,.int .i64 (ansS b 3).1,.int .i64 (ansS b 3).2,.int .i64 (ansS b 4).1,.int .i64 (ansS b 4).2,.int .i64 (ansS b 5).1,.int .i64 (ansS b 5).2,.int .i64 (ansS b 6).1,.int .i64 (ansS b 6).2,.int .i64 (ansS b 7).1,.int .i64 (ansS b 7).2,.int .i64 (ansS b 8).1,.int .i64 (ansS b 8).2,.int .i64 (ansS b 9).1,.int .i64 (ansS b 9).2,.bool b.isSome]
structure Thru (w : World) (B : Nat) (An : Option Addr) (nn cn : Nat) (At : Option Addr) (nt ct : Nat) (ns : List Nod) (t : List UInt8) (g : Int) : Prop where
 nn_ : nn = ns.length
 nc : nn ≤ cn
 cm : cn ≤ maxLen
 nods : Nods w B An ns
 nt_ : nt = t.length
 tc : nt ≤ ct
 tm : ct ≤ maxLen
 tl : nt ≤ 1000000
 byt : Byt w B At t
 base : B ≤ w.heap.size
 rt : Rt ns g
 nk : nn ≤ 1000
 n1 : 1 ≤ nn
theorem Thru.below {w w' : World} {B : Nat} {An At : Option Addr} {nn cn nt ct : Nat} {ns : List Nod} {t : List UInt8} {g : Int} (h : Thru w B An nn cn At nt ct ns t g) (hb : Below B w w') : Thru w' B An nn cn At nt ct ns t g :=
 { h with nods:=h.nods.below hb,byt:=h.byt.below hb,base:=Nat.le_trans h.base hb.size }
structure Srch (w : World) (B S : Nat) (An : Option Addr) (nn cn : Nat) (At : Option Addr) (nt ct : Nat) (ns : List Nod) (t : List UInt8) (g : Int) (a left : Nat) (v : Value) (xs : List Wt) (b : Option Spn) : Prop where
 held : Held w S 57 (srchC An nn cn At nt ct a left v b)
 own : w.ownsRow B 86 22 v xs.length (wtsL xs)
 rows : ∀ x ∈ xs,RowAt w ns x.1 x.2.2
 thru : Thru w B An nn cn At nt ct ns t g
 base : B ≤ S
 few : xs.length + left ≤ 1000001
structure Sta (w : World) (B S W : Nat) (An : Option Addr) (nn cn : Nat) (At : Option Addr) (nt ct : Nat) (ns : List Nod) (t : List UInt8) (g : Int) (a left : Nat) (v : Value) (xs : List Wt) (b : Option Spn) (pv : Value) (p : Pt) (l : List Tsk) : Prop where
 s : Srch w B S An nn cn At nt ct ns t g a left v xs b
 way : Held w W 86 (wayC p pv)
 row : RowAt w ns pv l
 apart : v.ownBlock ≠ some W
 base : B ≤ W
structure Chm (w w' : World) (S W : Nat) (v v' : Value) : Prop where
 os : w'.os = w.os
 tape : w'.tape = w.tape
 output : w'.output = w.output
 size : w.heap.size ≤ w'.heap.size
 far : ∀ k,k < w.heap.size → k ≠ S → k ≠ W → some k ≠ v.ownBlock → w'.heap[k]? = w.heap[k]?
 row : ∀ k,v'.ownBlock = some k → v.ownBlock = some k ∨ w.heap.size ≤ k
section
variable {w w' w1 : World} {S W : Nat} {v v' v1 : Value}
theorem Chm.of_below (h : Below w.heap.size w w') : Chm w w' S W v v:=⟨h.os,h.tape,h.output,h.size,fun k hk _ _ _ => h.block k hk,fun _ e => .inl e⟩
theorem Chm.trans (h : Chm w w1 S W v v1) (k : Chm w1 w' S W v1 v') : Chm w w' S W v v':=by
 refine ⟨k.os.trans h.os,k.tape.trans h.tape,k.output.trans h.output,Nat.le_trans h.size k.size,fun j hj hS hW hv => ?_,fun j e => ?_⟩
 · refine (k.far j (nll hj h.size) hS hW (fun e => ?_)).trans (h.far j hj hS hW hv)
   rcases h.row j e.symm with e1 | e1
   · exact hv e1.symm
   · omega
 · rcases k.row j e with e1 | e1
   · exact h.row j e1
   · exact .inr (Nat.le_trans h.size e1)
theorem Chm.of_grown {k : Nat} (h : w.grownBy w' (some k)) (hk : k = S ∨ k = W ∨ w.heap.size ≤ k) : Chm w w' S W v v :=
 ⟨h.os,h.tape,h.output,h.size,fun j hj hS hW _ => h.block j hj (fun e => by have:=Option.some.inj e;omega),fun _ e => .inl e⟩
theorem Chm.of_own (h : w.grownBy w' v.ownBlock) (hv : ∀ k,v'.ownBlock = some k → v.ownBlock = some k ∨ w.heap.size ≤ k) : Chm w w' S W v v' :=
 ⟨h.os,h.tape,h.output,h.size,fun j hj _ _ hne => h.block j hj hne,hv⟩
theorem Chm.store {k p : Nat} (hk : k = S ∨ k = W) (u : Value) : Chm w (w.setCell ⟨k,p,none⟩ u) S W v v:=by
 have hb : Below 0 w (w.setCell ⟨k,p,none⟩ u):=(Below.refl 0 w).setCell (Nat.zero_le _) u
 exact ⟨hb.os,hb.tape,hb.output,hb.size,fun j hj h1 h2 _ => Below.heap_setCell w _ u j (by show j ≠ k;omega),fun _ e => .inl e⟩
theorem Chm.below {B : Nat} (h : Chm w w' S W v v') (hB : B ≤ w.heap.size) (hS : B ≤ S) (hW : B ≤ W) (hv : ∀ k,v.ownBlock = some k → B ≤ k) : Below B w w' :=
 ⟨h.os,h.tape,h.output,h.size,fun k hk => h.far k (by omega) (by omega) (by omega) (fun e => by have:=hv k e.symm;omega)⟩
theorem Chm.cell {B n : Nat} {xs cs cs' : List Value} {ca cb : Array Value} (h : Chm w w' S W v v') (hS : Held w S 57 ca) (hW : Held w W 86 cb) (ho : w.ownsRow B 86 22 v n xs) {b : Nat} {c : Array Value} (hc : Held w b 107 c) : Held w' b 107 c :=
 (h.far b hc.lt (hc.apart hS (by decide)) (hc.apart hW (by decide)) (fun e => hc.not_own ho (by decide) e.symm)).trans hc
end
section
variable {w w' : World} {B S W : Nat} {An : Option Addr} {nn cn : Nat} {At : Option Addr} {nt ct : Nat} {ns : List Nod} {t : List UInt8} {g : Int} {a left : Nat} {v v' : Value} {xs : List Wt} {b : Option Spn} {pv : Value} {p : Pt} {l : List Tsk}
theorem Srch.ownlow (h : Srch w B S An nn cn At nt ct ns t g a left v xs b) : ∀ k,v.ownBlock = some k → B ≤ k:=fun k e => (h.own.lt k e).1
theorem Srch.keep (h : Srch w B S An nn cn At nt ct ns t g a left v xs b) (hb : Below w.heap.size w w') : Srch w' B S An nn cn At nt ct ns t g a left v xs b :=
 ⟨h.held.keep hb,own_below h.own hb,fun x hx => (h.rows x hx).far hb,h.thru.below (hb.mono h.thru.base),h.base,h.few⟩
theorem Sta.keep (h : Sta w B S W An nn cn At nt ct ns t g a left v xs b pv p l) (hb : Below w.heap.size w w') : Sta w' B S W An nn cn At nt ct ns t g a left v xs b pv p l :=
 ⟨h.s.keep hb,h.way.keep hb,h.row.far hb,h.apart,h.base⟩
theorem Sta.ne (h : Sta w B S W An nn cn At nt ct ns t g a left v xs b pv p l) : S ≠ W:=h.s.held.apart h.way (by decide)
theorem Sta.low (h : Sta w B S W An nn cn At nt ct ns t g a left v xs b pv p l) (hc : Chm w w' S W v v') : Below B w w':=hc.below h.s.thru.base h.s.base h.base h.s.ownlow
theorem Sta.cells (h : Sta w B S W An nn cn At nt ct ns t g a left v xs b pv p l) (hc : Chm w w' S W v v') : ∀ b cs,Held w b 107 cs → Held w' b 107 cs :=
 fun b cs hh => hc.cell (cs:=[]) (cs':=[]) h.s.held h.way h.s.own hh
theorem Sta.wayed (h : Sta w B S W An nn cn At nt ct ns t g a left v xs b pv p l) (hg : w.grownBy w' (some W)) {p' : Pt} {pv' : Value} {l' : List Tsk} (hw : Held w' W 86 (wayC p' pv')) (hr : RowAt w' ns pv' l') :
    Sta w' B S W An nn cn At nt ct ns t g a left v xs b pv' p' l' ∧ Chm w w' S W v v:=by
 have hc : Chm w w' S W v v:=Chm.of_grown hg (.inr (.inl rfl))
 have hcell:=h.cells hc
 exact ⟨⟨⟨h.s.held.grown hg (fun e => h.ne (Option.some.inj e)),h.s.own.kept hg (.inr h.apart),fun x hx => (h.s.rows x hx).keep hcell,h.s.thru.below (h.low hc),h.s.base,h.s.few⟩,hw,hr,h.apart,h.base⟩,hc⟩
theorem Srch.turned (h : Srch w B S An nn cn At nt ct ns t g a left v xs b) (hg : w.grownBy w' (some S)) {left' : Nat} {b' : Option Spn} (hw : Held w' S 57 (srchC An nn cn At nt ct a left' v b')) (hf : left' ≤ left) : Srch w' B S An nn cn At nt ct ns t g a left' v xs b' :=
 ⟨hw,h.own.kept hg (.inr (h.held.not_own h.own (by decide))),fun x hx => (h.rows x hx).keep fun b cs hc => hc.grown hg (fun e => hc.apart h.held (by decide) (Option.some.inj e)),h.thru.below ⟨hg.os,hg.tape,hg.output,hg.size,fun k hk => hg.block k (by have:=h.thru.base;omega) (fun e => by have:=Option.some.inj e;have:=h.base;omega)⟩,h.base,by have:=h.few;omega⟩
end
inductive GoP (w : World) (B S W : Nat) (An : Option Addr) (nn cn : Nat) (At : Option Addr) (nt ct : Nat) (ns : List Nod) (t : List UInt8) (g : Int) (a left : Nat) (v : Value) (xs : List Wt) (b : Option Spn) (L : List Wy) : Ending → World → Prop
 | gone {w' : World} {cs : Array Value} (h : L = []) (hs : Srch w' B S An nn cn At nt ct ns t g a left v xs b) (hw : Held w' W 86 cs) (hc : Chm w w' S W v v) : GoP w B S W An nn cn At nt ct ns t g a left v xs b L (.returned (.bool false)) w'
 | goes {w' : World} {v' pv : Value} {p : Pt} {l : List Tsk} {ys : List Wt} (hs : Sta w' B S W An nn cn At nt ct ns t g a left v' (xs ++ ys) b pv p l) (hc : Chm w w' S W v v') (hy : ys.length ≤ 1) (hp : ((l,p) :: ys.map wyW).Perm L) : GoP w B S W An nn cn At nt ct ns t g a left v xs b L (.returned (.bool true)) w'
section
variable {w w1 w' : World} {B S W : Nat} {An : Option Addr} {nn cn : Nat} {At : Option Addr} {nt ct : Nat} {ns : List Nod} {t : List UInt8} {g : Int} {a left : Nat} {v : Value} {xs : List Wt} {b : Option Spn} {L : List Wy} {e : Ending}
theorem GoP.from (hc : Chm w w1 S W v v) (h : GoP w1 B S W An nn cn At nt ct ns t g a left v xs b L e w') : GoP w B S W An nn cn At nt ct ns t g a left v xs b L e w':=by
 cases h with
 | gone h hs hw h2 => exact .gone h hs hw (hc.trans h2)
 | goes hs h2 hy hp => exact .goes hs (hc.trans h2) hy hp
theorem GoP.cast {L' : List Wy} (h : GoP w B S W An nn cn At nt ct ns t g a left v xs b L e w') (e' : L = L') : GoP w B S W An nn cn At nt ct ns t g a left v xs b L' e w':=e' ▸ h
theorem GoP.later (h : GoP w B S W An nn cn At nt ct ns t g a left v xs b L e w1) (hb : Below w1.heap.size w1 w') : GoP w B S W An nn cn At nt ct ns t g a left v xs b L e w':=by
 cases h with
 | gone h hs hw h2 => exact .gone h (hs.keep hb) (hw.keep hb) (h2.trans (Chm.of_below hb))
 | goes hs h2 hy hp => exact .goes (hs.keep hb) (h2.trans (Chm.of_below hb)) hy hp
end
end Go.Proofs.Ytjopmieaikgbcaa
