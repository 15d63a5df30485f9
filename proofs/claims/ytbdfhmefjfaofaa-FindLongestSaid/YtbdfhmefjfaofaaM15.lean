/- Contracts and plain facts: M15. -/
import Derived.Test.YtbdfhmefjfaofaaM14
set_option linter.unusedVariables false
set_option linter.unusedSimpArgs false
set_option maxRecDepth 100000
set_option maxHeartbeats 32000000
namespace Go.Proofs.Ytbdfhmefjfaofaa
open Go.RowKit
def TkC (ns : List Nod) (tk : Tsk) (k n t q : Int) : Prop :=
 match tk with
 | .node m => k = 0 ∧ n = m ∧ t = 0 ∧ q = 0
 | .gend g p => k = 1 ∧ (0 ≤ n ∧ n < ns.length) ∧ (ndA ns n).grp = g ∧ t = 0 ∧ q = (p : Int)
 | .times m j p => k = 2 ∧ n = m ∧ t = j ∧ q = (p : Int)
inductive RowAt (w : World) (ns : List Nod) : Value → List Tsk → Prop
 | nil : RowAt w ns (.pointer none) []
 | cons {b : Nat} {k n t q : Int} {pv : Value} {tk : Tsk} {r : List Tsk} (hc : Held w b 107 #[.int .i64 k,.int .i64 n,.int .i64 t,.int .i64 q,pv]) (ht : TkC ns tk k n t q) (hr : RowAt w ns pv r) : RowAt w ns (.pointer (some ⟨b,0,none⟩)) (tk :: r)
theorem RowAt.keep {w w' : World} {ns : List Nod} {pv : Value} {l : List Tsk} (h : RowAt w ns pv l) (hk : ∀ b cs,Held w b 107 cs → Held w' b 107 cs) : RowAt w' ns pv l:=by
 induction h with
 | nil => exact .nil
 | cons hc ht _ ih => exact .cons (hk _ _ hc) ht ih
theorem RowAt.far {w w' : World} {ns : List Nod} {pv : Value} {l : List Tsk} (h : RowAt w ns pv l) (hb : Below w.heap.size w w') : RowAt w' ns pv l:=h.keep fun b cs hc => hc.keep hb
def wayL (p : Pt) (pv : Value) : List Value :=
 [.int .i64 (p.i : Int),.int .i64 (p.sp 0).1,.int .i64 (p.sp 0).2,.int .i64 (p.sp 1).1,.int .i64 (p.sp 1).2,.int .i64 (p.sp 2).1,.int .i64 (p.sp 2).2,.int .i64 (p.sp 3).1,.int .i64 (p.sp 3).2,.int .i64 (p.sp 4).1,.int .i64 (p.sp 4).2,.int .i64 (p.sp 5).1,.int .i64 (p.sp 5).2,.int .i64 (p.sp 6).1,.int .i64 (p.sp 6).2,.int .i64 (p.sp 7).1,.int .i64 (p.sp 7).2,.int .i64 (p.sp 8).1,.int .i64 (p.sp 8).2,.int .i64 (p.sp 9).1,.int .i64 (p.sp 9).2,pv]
def wayC (p : Pt) (pv : Value) : Array Value:=(wayL p pv).toArray
theorem wayL_len (p : Pt) (pv : Value) : (wayL p pv).length = 22:=rfl
theorem wayL_spans (p : Pt) (pv : Value) : wayL p pv = .int .i64 (p.i : Int) :: (hitL p.sp ++ [pv]):=rfl
def PtrV (v : Value) : Prop:=∃ x,v = .pointer x
theorem RowAt.ptr {w : World} {ns : List Nod} {pv : Value} {l : List Tsk} (h : RowAt w ns pv l) : PtrV pv:=by cases h <;> exact ⟨_,rfl⟩
theorem wayL_one {p : Pt} {pv : Value} (h : PtrV pv) : ∀ u ∈ wayL p pv,u.oneCell' = true:=by
 obtain ⟨x,rfl⟩:=h
 simp [wayL,Value.oneCell']
theorem way_cells {p : Pt} {pv : Value} (h : PtrV pv) : (wayC p pv).all (·.oneCell') = true:=all_oneCell_toArray (wayL_one h)
theorem way_row (p : Pt) (pv q : Value) : (wayC p pv).setIfInBounds 21 q = wayC p q:=rfl
theorem way_goto (p : Pt) (pv : Value) (j : Nat) : (wayC p pv).setIfInBounds 0 (.int .i64 (j : Int)) = wayC ⟨j,p.sp⟩ pv:=rfl
theorem grown_of {w w1 : World} (h : Below w.heap.size w w1) (r : Option Nat) : w.grownBy w1 r:=⟨h.os,h.tape,h.output,h.size,fun k hk _ => h.block k hk⟩
theorem grown_then {w w1 w2 : World} {r : Option Nat} (h : w.grownBy w1 r) (hb : Below w1.heap.size w1 w2) : w.grownBy w2 r :=
 ⟨hb.os.trans h.os,hb.tape.trans h.tape,hb.output.trans h.output,Nat.le_trans h.size hb.size,fun k hk hne => (hb.block k (nll hk h.size)).trans (h.block k hk hne)⟩
theorem grown_cell (w : World) (b p : Nat) (u : Value) : w.grownBy (w.setCell ⟨b,p,none⟩ u) (some b):=by
 have hb : Below 0 w (w.setCell ⟨b,p,none⟩ u):=(Below.refl 0 w).setCell (Nat.zero_le _) u
 exact ⟨hb.os,hb.tape,hb.output,hb.size,fun k _ hne => Below.heap_setCell w _ u k (fun e => hne (by rw [e]))⟩
theorem grown_row {w : World} {b : Nat} (cs : Array Value) : w.grownBy (w.setRow b cs) (some b) :=
 ⟨rfl,rfl,rfl,by rw [size_setRow];exact nlr _,fun k _ hne => setRow_other w b k cs (fun e => hne (by rw [e]))⟩
abbrev Wt:=Value × Pt × List Tsk
def wyW (x : Wt) : Wy:=(x.2.2,x.2.1)
def wtsL (xs : List Wt) : List Value:=xs.flatMap fun x => wayL x.2.1 x.1
theorem wtsL_len (xs : List Wt) : (wtsL xs).length = xs.length * 22:=by
 induction xs with
 | nil => rfl
 | cons x xs ih => simp only [wtsL,List.flatMap_cons,lla,List.length_cons] at ih ⊢;rw [ih,wayL_len];omega
theorem wtsL_append (xs ys : List Wt) : wtsL (xs ++ ys) = wtsL xs ++ wtsL ys:=by simp [wtsL]
theorem wtsL_one (x : Wt) : wtsL [x] = wayL x.2.1 x.1:=by simp [wtsL]
def srchC (An : Option Addr) (nn cn : Nat) (At : Option Addr) (nt ct : Nat) (a left : Nat) (v : Value) (b : Option Spn) : Array Value :=
 #[.slice An nn cn,.slice At nt ct,.int .i64 (a : Int),.int .i64 (left : Int),v,
  .int .i64 (ansS b 0).1,.int .i64 (ansS b 0).2,.int .i64 (ansS b 1).1,.int .i64 (ansS b 1).2,.int .i64 (ansS b 2).1,.int .i64 (ansS b 2).2,.int .i64 (ansS b 3).1,.int .i64 (ansS b 3).2,.int .i64 (ansS b 4).1,.int .i64 (ansS b 4).2,.int .i64 (ansS b 5).1,.int .i64 (ansS b 5).2,.int .i64 (ansS b 6).1,.int .i64 (ansS b 6).2,.int .i64 (ansS b 7).1,.int .i64 (ansS b 7).2,.int .i64 (ansS b 8).1,.int .i64 (ansS b 8).2,.int .i64 (ansS b 9).1,.int .i64 (ansS b 9).2,.bool b.isSome]
structure Thru (w : World) (B : Nat) (An : Option Addr) (nn cn : Nat) (At : Option Addr) (nt ct : Nat) (ns : List Nod) (t : List UInt8) (g : Int) : Prop where
 nn_ : nn = ns.length
 nc : nn ≤ cn
 cm : cn ≤ maxLen
 nods : Nods w B An ns
 nt_ : nt = t.length
 tc : nt ≤ ct
 tm : ct ≤ maxLen
 tl : nt ≤ 1000000
 byt : Byt w B At t
 base : B ≤ w.heap.size
 rt : Rt ns g
 nk : nn ≤ 1000
 n1 : 1 ≤ nn
theorem Thru.below {w w' : World} {B : Nat} {An At : Option Addr} {nn cn nt ct : Nat} {ns : List Nod} {t : List UInt8} {g : Int} (h : Thru w B An nn cn At nt ct ns t g) (hb : Below B w w') : Thru w' B An nn cn At nt ct ns t g :=
 { h with nods:=h.nods.below hb,byt:=h.byt.below hb,base:=Nat.le_trans h.base hb.size }
structure Srch (w : World) (B S : Nat) (An : Option Addr) (nn cn : Nat) (At : Option Addr) (nt ct : Nat) (ns : List Nod) (t : List UInt8) (g : Int) (a left : Nat) (v : Value) (xs : List Wt) (b : Option Spn) : Prop where
 held : Held w S 57 (srchC An nn cn At nt ct a left v b)
 own : w.ownsRow B 86 22 v xs.length (wtsL xs)
 rows : ∀ x ∈ xs,RowAt w ns x.1 x.2.2
 thru : Thru w B An nn cn At nt ct ns t g
 base : B ≤ S
 few : xs.length + left ≤ 1000001
structure Sta (w : World) (B S W : Nat) (An : Option Addr) (nn cn : Nat) (At : Option Addr) (nt ct : Nat) (ns : List Nod) (t : List UInt8) (g : Int) (a left : Nat) (v : Value) (xs : List Wt) (b : Option Spn) (pv : Value) (p : Pt) (l : List Tsk) : Prop where
 s : Srch w B S An nn cn At nt ct ns t g a left v xs b
 way : Held w W 86 (wayC p pv)
 row : RowAt w ns pv l
 apart : v.ownBlock ≠ some W
 base : B ≤ W
structure Chm (w w' : World) (S W : Nat) (v v' : Value) : Prop where
 os : w'.os = w.os
 tape : w'.tape = w.tape
 output : w'.output = w.output
 size : w.heap.size ≤ w'.heap.size
 far : ∀ k,k < w.heap.size → k ≠ S → k ≠ W → some k ≠ v.ownBlock → w'.heap[k]? = w.heap[k]?
 row : ∀ k,v'.ownBlock = some k → v.ownBlock = some k ∨ w.heap.size ≤ k
section
variable {w w' w1 : World} {S W : Nat} {v v' v1 : Value}
theorem Chm.of_below (h : Below w.heap.size w w') : Chm w w' S W v v:=⟨h.os,h.tape,h.output,h.size,fun k hk _ _ _ => h.block k hk,fun _ e => .inl e⟩
theorem Chm.trans (h : Chm w w1 S W v v1) (k : Chm w1 w' S W v1 v') : Chm w w' S W v v':=by
 refine ⟨k.os.trans h.os,k.tape.trans h.tape,k.output.trans h.output,Nat.le_trans h.size k.size,fun j hj hS hW hv => ?_,fun j e => ?_⟩
 · refine (k.far j (nll hj h.size) hS hW (fun e => ?_)).trans (h.far j hj hS hW hv)
   rcases h.row j e.symm with e1 | e1
   · exact hv e1.symm
   · omega
 · rcases k.row j e with e1 | e1
   · exact h.row j e1
   · exact .inr (Nat.le_trans h.size e1)
theorem Chm.of_grown {k : Nat} (h : w.grownBy w' (some k)) (hk : k = S ∨ k = W ∨ w.heap.size ≤ k) : Chm w w' S W v v :=
 ⟨h.os,h.tape,h.output,h.size,fun j hj hS hW _ => h.block j hj (fun e => by have:=Option.some.inj e;omega),fun _ e => .inl e⟩
theorem Chm.of_own (h : w.grownBy w' v.ownBlock) (hv : ∀ k,v'.ownBlock = some k → v.ownBlock = some k ∨ w.heap.size ≤ k) : Chm w w' S W v v' :=
 ⟨h.os,h.tape,h.output,h.size,fun j hj _ _ hne => h.block j hj hne,hv⟩
theorem Chm.store {k p : Nat} (hk : k = S ∨ k = W) (u : Value) : Chm w (w.setCell ⟨k,p,none⟩ u) S W v v:=by
 have hb : Below 0 w (w.setCell ⟨k,p,none⟩ u):=(Below.refl 0 w).setCell (Nat.zero_le _) u
 exact ⟨hb.os,hb.tape,hb.output,hb.size,fun j hj h1 h2 _ => Below.heap_setCell w _ u j (by show j ≠ k;omega),fun _ e => .inl e⟩
theorem Chm.below {B : Nat} (h : Chm w w' S W v v') (hB : B ≤ w.heap.size) (hS : B ≤ S) (hW : B ≤ W) (hv : ∀ k,v.ownBlock = some k → B ≤ k) : Below B w w' :=
 ⟨h.os,h.tape,h.output,h.size,fun k hk => h.far k (by omega) (by omega) (by omega) (fun e => by have:=hv k e.symm;omega)⟩
theorem Chm.cell {B n : Nat} {xs cs cs' : List Value} {ca cb : Array Value} (h : Chm w w' S W v v') (hS : Held w S 57 ca) (hW : Held w W 86 cb) (ho : w.ownsRow B 86 22 v n xs) {b : Nat} {c : Array Value} (hc : Held w b 107 c) : Held w' b 107 c :=
 (h.far b hc.lt (hc.apart hS (by decide)) (hc.apart hW (by decide)) (fun e => hc.not_own ho (by decide) e.symm)).trans hc
end
section
variable {w w' : World} {B S W : Nat} {An : Option Addr} {nn cn : Nat} {At : Option Addr} {nt ct : Nat} {ns : List Nod} {t : List UInt8} {g : Int} {a left : Nat} {v v' : Value} {xs : List Wt} {b : Option Spn} {pv : Value} {p : Pt} {l : List Tsk}
theorem Srch.ownlow (h : Srch w B S An nn cn At nt ct ns t g a left v xs b) : ∀ k,v.ownBlock = some k → B ≤ k:=fun k e => (h.own.lt k e).1
theorem Srch.keep (h : Srch w B S An nn cn At nt ct ns t g a left v xs b) (hb : Below w.heap.size w w') : Srch w' B S An nn cn At nt ct ns t g a left v xs b :=
 ⟨h.held.keep hb,own_below h.own hb,fun x hx => (h.rows x hx).far hb,h.thru.below (hb.mono h.thru.base),h.base,h.few⟩
theorem Sta.keep (h : Sta w B S W An nn cn At nt ct ns t g a left v xs b pv p l) (hb : Below w.heap.size w w') : Sta w' B S W An nn cn At nt ct ns t g a left v xs b pv p l :=
 ⟨h.s.keep hb,h.way.keep hb,h.row.far hb,h.apart,h.base⟩
theorem Sta.ne (h : Sta w B S W An nn cn At nt ct ns t g a left v xs b pv p l) : S ≠ W:=h.s.held.apart h.way (by decide)
theorem Sta.low (h : Sta w B S W An nn cn At nt ct ns t g a left v xs b pv p l) (hc : Chm w w' S W v v') : Below B w w':=hc.below h.s.thru.base h.s.base h.base h.s.ownlow
theorem Sta.cells (h : Sta w B S W An nn cn At nt ct ns t g a left v xs b pv p l) (hc : Chm w w' S W v v') : ∀ b cs,Held w b 107 cs → Held w' b 107 cs :=
 fun b cs hh => hc.cell (cs:=[]) (cs':=[]) h.s.held h.way h.s.own hh
theorem Sta.wayed (h : Sta w B S W An nn cn At nt ct ns t g a left v xs b pv p l) (hg : w.grownBy w' (some W)) {p' : Pt} {pv' : Value} {l' : List Tsk} (hw : Held w' W 86 (wayC p' pv')) (hr : RowAt w' ns pv' l') :
    Sta w' B S W An nn cn At nt ct ns t g a left v xs b pv' p' l' ∧ Chm w w' S W v v:=by
 have hc : Chm w w' S W v v:=Chm.of_grown hg (.inr (.inl rfl))
 have hcell:=h.cells hc
 exact ⟨⟨⟨h.s.held.grown hg (fun e => h.ne (Option.some.inj e)),h.s.own.kept hg (.inr h.apart),fun x hx => (h.s.rows x hx).keep hcell,h.s.thru.below (h.low hc),h.s.base,h.s.few⟩,hw,hr,h.apart,h.base⟩,hc⟩
theorem Srch.turned (h : Srch w B S An nn cn At nt ct ns t g a left v xs b) (hg : w.grownBy w' (some S)) {left' : Nat} {b' : Option Spn} (hw : Held w' S 57 (srchC An nn cn At nt ct a left' v b')) (hf : left' ≤ left) : Srch w' B S An nn cn At nt ct ns t g a left' v xs b' :=
 ⟨hw,h.own.kept hg (.inr (h.held.not_own h.own (by decide))),fun x hx => (h.rows x hx).keep fun b cs hc => hc.grown hg (fun e => hc.apart h.held (by decide) (Option.some.inj e)),h.thru.below ⟨hg.os,hg.tape,hg.output,hg.size,fun k hk => hg.block k (by have:=h.thru.base;omega) (fun e => by have:=Option.some.inj e;have:=h.base;omega)⟩,h.base,by have:=h.few;omega⟩
end
inductive GoP (w : World) (B S W : Nat) (An : Option Addr) (nn cn : Nat) (At : Option Addr) (nt ct : Nat) (ns : List Nod) (t : List UInt8) (g : Int) (a left : Nat) (v : Value) (xs : List Wt) (b : Option Spn) (L : List Wy) : Ending → World → Prop
 | gone {w' : World} {cs : Array Value} (h : L = []) (hs : Srch w' B S An nn cn At nt ct ns t g a left v xs b) (hw : Held w' W 86 cs) (hc : Chm w w' S W v v) : GoP w B S W An nn cn At nt ct ns t g a left v xs b L (.returned (.bool false)) w'
 | goes {w' : World} {v' pv : Value} {p : Pt} {l : List Tsk} {ys : List Wt} (hs : Sta w' B S W An nn cn At nt ct ns t g a left v' (xs ++ ys) b pv p l) (hc : Chm w w' S W v v') (hy : ys.length ≤ 1) (hp : ((l,p) :: ys.map wyW).Perm L) : GoP w B S W An nn cn At nt ct ns t g a left v xs b L (.returned (.bool true)) w'
section
variable {w w1 w' : World} {B S W : Nat} {An : Option Addr} {nn cn : Nat} {At : Option Addr} {nt ct : Nat} {ns : List Nod} {t : List UInt8} {g : Int} {a left : Nat} {v : Value} {xs : List Wt} {b : Option Spn} {L : List Wy} {e : Ending}
theorem GoP.from (hc : Chm w w1 S W v v) (h : GoP w1 B S W An nn cn At nt ct ns t g a left v xs b L e w') : GoP w B S W An nn cn At nt ct ns t g a left v xs b L e w':=by
 cases h with
 | gone h hs hw h2 => exact .gone h hs hw (hc.trans h2)
 | goes hs h2 hy hp => exact .goes hs (hc.trans h2) hy hp
theorem GoP.cast {L' : List Wy} (h : GoP w B S W An nn cn At nt ct ns t g a left v xs b L e w') (e' : L = L') : GoP w B S W An nn cn At nt ct ns t g a left v xs b L' e w':=e' ▸ h
theorem GoP.later (h : GoP w B S W An nn cn At nt ct ns t g a left v xs b L e w1) (hb : Below w1.heap.size w1 w') : GoP w B S W An nn cn At nt ct ns t g a left v xs b L e w':=by
 cases h with
 | gone h hs hw h2 => exact .gone h (hs.keep hb) (hw.keep hb) (h2.trans (Chm.of_below hb))
 | goes hs h2 hy hp => exact .goes (hs.keep hb) (h2.trans (Chm.of_below hb)) hy hp
end
end Go.Proofs.Ytbdfhmefjfaofaa
