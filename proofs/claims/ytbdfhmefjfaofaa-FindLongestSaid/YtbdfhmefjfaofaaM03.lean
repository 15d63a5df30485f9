/- Contracts and plain facts: M03. -/
import Derived.Laws.Rows
import Derived.Laws.OwnMore
import Derived.Test.YtbdfhmefjfaofaaM02
import Derived.Deep.WholeRow
import Derived.Laws.AppendOwn
import Derived.OwnWalk
import Derived.Lib.AppendStr
set_option linter.unusedVariables false
set_option linter.unusedSimpArgs false
set_option maxRecDepth 100000
set_option maxHeartbeats 32000000
namespace Go.Proofs.Ytbdfhmefjfaofaa
open Go.RowKit
def Held (w : World) (g : Nat) (t : TypeId) (cs : Array Value) : Prop:=w.heap[g]? = some (.cells cs t (0,0))
section
variable {w w' : World} {g g' : Nat} {t t' : TypeId} {cs cs' : Array Value}
theorem Held.lt (h : Held w g t cs) : g < w.heap.size:=(Array.getElem?_eq_some_iff.1 h).1
theorem Held.at_ (h : Held w g t cs) {i : Nat} {v : Value} (hv : cs[i]? = some v) : w.cell? ⟨g,i,none⟩ = some v:=by rw [cell_of_row w g i cs t (0,0) h];exact hv
theorem Held.thawed (h : Held w g t cs) (i : Nat) : w.frozen? ⟨g,i,none⟩ = false:=frozen_of_row w g i cs t h
theorem Held.drew (h : Held w g t cs) : Held w.drew g t cs:=h
theorem Held.drewN (h : Held w g t cs) (n : Nat) : Held (w.drewN n) g t cs:=h
theorem Held.alloc (h : Held w g t cs) (o : Obj) : Held (w.alloc o) g t cs:=(Below.heap_alloc w o g h.lt).trans h
theorem Held.below {B : Nat} (h : Held w g t cs) (hb : Below B w w') (hg : g < B) : Held w' g t cs:=(hb.block g hg).trans h
theorem Held.keep (h : Held w g t cs) (hb : Below w.heap.size w w') : Held w' g t cs:=h.below hb h.lt
theorem Held.far {a : Addr} (h : Held w g t cs) (hne : g ≠ a.block) (v : Value) : Held (w.setCell a v) g t cs:=(heap_setCell_other w a g v hne).trans h
theorem Held.put (h : Held w g t cs) (i : Nat) (v : Value) : Held (w.setCell ⟨g,i,none⟩ v) g t (cs.setIfInBounds i v):=heap_setCell_same w g i cs t v h
theorem Held.row (h : Held w g t cs) (cs' : Array Value) : Held (w.setRow g cs') g t cs':=setRow_heap w g _ _ _ _ h
theorem Held.row_far (h : Held w g t cs) (hne : g ≠ g') (cs' : Array Value) : Held (w.setRow g' cs') g t cs:=(setRow_other w g' g cs' hne).trans h
theorem Held.grown {r : Option Nat} (h : Held w g t cs) (hg : w.grownBy w' r) (hne : some g ≠ r) : Held w' g t cs:=(hg.block g h.lt hne).trans h
theorem Held.range (h : Held w g t cs) : w.rangeAt g 0 cs.toList:=fun j v hj => by rw [Nat.zero_add];exact h.at_ (by simpa using hj)
theorem held_new (w : World) (t : TypeId) (cs : Array Value) : Held (w.alloc (.cells cs t)) w.heap.size t cs:=heap_alloc_new w _
theorem held_new2 (w : World) (o : Obj) (t : TypeId) (cs : Array Value) : Held ((w.alloc o).alloc (.cells cs t)) (w.heap.size + 1) t cs:=heap_alloc2_new w o _
theorem Held.apart (h : Held w g t cs) (h' : Held w g' t' cs') (hne : t ≠ t') : g ≠ g':=by
 rintro rfl
 unfold Held at h h'
 rw [h] at h'
 injection h' with h'
 injection h' with _ h'
 exact hne h'
theorem Held.not_own {base : Nat} {e : TypeId} {size n : Nat} {v : Value} {xs : List Value} (h : Held w g t cs) (ho : w.ownsRow base e size v n xs) (hne : e ≠ t) : v.ownBlock ≠ some g:=by
 intro hv
 rcases ho.2 with ⟨rfl,_⟩ | ⟨g',cap,cur,rfl,_,hh,_⟩
 · cases hv
 · have e1 : g' = g:=by simpa [Value.ownBlock] using hv
   subst e1
   exact Held.apart (t:=e) hh h hne rfl
theorem sizeA' (w : World) (o : Obj) : (w.alloc o).heap.size = w.heap.size + 1:=by simp
theorem below_row {B : Nat} {w0 : World} (hb : Below B w0 w) (hg : B ≤ g) (cs : Array Value) : Below B w0 (w.setRow g cs) :=
 ⟨hb.os,hb.tape,hb.output,by rw [size_setRow];exact hb.size,fun k hk => by rw [setRow_other w g k cs (by omega)];exact hb.block k hk⟩
end
theorem results_cell_two {P : Program} {fn : Func} {p q : Tmp} {ty : TypeId} (h : fn.results = #[.cell p ty,.tmp q]) (tmps : Array Value) (w : World) (g : Nat) (t : TypeId) (cs : Array Value) (fr : Nat × Nat) (d : TypeDesc)
    (hp : tmps.getD p undef = .pointer (some ⟨g,0,none⟩)) {x : Value} (hx : tmps.getD q undef = x) (hg : w.heap[g]? = some (.cells cs t fr))
    (hu : P.underlying ty = some d) (hd : (match d with | .struct _ | .array _ _ => true | _ => false) = true) (hi : (P.info? ty).map (·.size) = some cs.size) :
    (results fn tmps).run P w = .ok (.tuple #[.agg cs,x]) w:=by
 have hp' : tmps[p]?.getD undef = .pointer (some ⟨g,0,none⟩):=by simpa using hp
 have hx' : tmps[q]?.getD undef = x:=by simpa using hx
 simp [results,h,hp',hx',asAddr,run_loadVar_row w g t ty cs fr d hg hu hd hi]
theorem nod_info (n : Nod) : (Try.prog.info? 54).map (·.size) = some (nodL n).length:=size_nod
def partsN (n : Nod) : List Int:=if n.kind = 2 ∨ n.kind = 3 then [n.a,n.b] else if n.kind = 4 ∨ n.kind = 5 then [n.a] else []
def timesN (lo hi : Int) : Bool:=decide (0 ≤ lo) && (decide (lo ≤ 255) && (decide (hi = -1) || (decide (lo ≤ hi) && decide (hi ≤ 255))))
def wantedN (n : Nod) : Nod :=
 if n.kind = 1 then { kind:=n.kind,a:=0,b:=0,lo:=0,hi:=0,grp:=0,set:=n.set } else
 if n.kind = 2 ∨ n.kind = 3 then { kind:=n.kind,a:=n.a,b:=n.b,lo:=0,hi:=0,grp:=0,set:=zset } else
 if n.kind = 4 then { kind:=n.kind,a:=n.a,b:=0,lo:=n.lo,hi:=n.hi,grp:=0,set:=zset } else
 if n.kind = 5 then { kind:=n.kind,a:=n.a,b:=0,lo:=0,hi:=0,grp:=n.grp,set:=zset } else
 if n.kind = 6 then { kind:=n.kind,a:=0,b:=0,lo:=0,hi:=0,grp:=n.grp,set:=zset } else
 { kind:=n.kind,a:=0,b:=0,lo:=0,hi:=0,grp:=0,set:=zset }
theorem nodV_lit (k a b lo hi g : Int) (s : Nat → Bool) : nodV ⟨k,a,b,lo,hi,g,s⟩ = .agg #[.int .i64 k,.int .i64 a,.int .i64 b,.int .i64 lo,.int .i64 hi,.int .i64 g,.int .u64 (wd s 0 : Nat),.int .u64 (wd s 1 : Nat),.int .u64 (wd s 2 : Nat),.int .u64 (wd s 3 : Nat)]:=rfl
theorem partsN_2 {n : Nod} (h : n.kind = 2) : partsN n = [n.a,n.b]:=by simp [partsN,h]
theorem partsN_3 {n : Nod} (h : n.kind = 3) : partsN n = [n.a,n.b]:=by simp [partsN,h]
theorem partsN_4 {n : Nod} (h : n.kind = 4) : partsN n = [n.a]:=by simp [partsN,h]
theorem partsN_5 {n : Nod} (h : n.kind = 5) : partsN n = [n.a]:=by simp [partsN,h]
theorem partsN_else {n : Nod} (h2 : n.kind ≠ 2) (h3 : n.kind ≠ 3) (h4 : n.kind ≠ 4) (h5 : n.kind ≠ 5) : partsN n = []:=by simp [partsN,h2,h3,h4,h5]
theorem beq_no {a b : Int} (h : a ≠ b) : (a == b) = false:=by rw [bef];exact h
def PartsRet (w : World) (l : List Int) (e : Ending) (w' : World) : Prop :=
 ∃ A n c,e = .returned (.slice A n c) ∧ n = l.length ∧ n ≤ c ∧ c ≤ 2 ∧ Vals w' w'.heap.size A (l.map (Value.int .i64)) ∧ (∀ ad,A = some ad → w.heap.size ≤ ad.block) ∧ Below w.heap.size w w'
theorem alloc2_below (w : World) (o1 o2 : Obj) : Below w.heap.size w ((w.alloc o1).alloc o2):=((Below.refl _ _).alloc (nlr _) _).alloc (by simp) _
theorem parts_any (n : Nod) (w : World) : Calls Try.prog 31 #[nodV n] w (PartsRet w (partsN n)):=by
 have two : ∀ a b : Int,PartsRet w [a,b] (.returned (.slice (some ⟨w.heap.size + 1,0,none⟩) 2 2)) ((w.alloc (.cells (nodC n) 54)).alloc (.cells #[.int .i64 a,.int .i64 b] 3)):=fun a b =>
  ⟨_,2,2,rfl,rfl,nlr _,nlr _,by
   have:=vals_new (w.alloc (.cells (nodC n) 54)) [.int .i64 a,.int .i64 b] 3 (0,0)
   rw [sizeA'] at this
   rw [sizeA',sizeA'];exact this,(fun ad e => by cases e;show w.heap.size ≤ w.heap.size + 1;omega),alloc2_below _ _ _⟩
 have one : ∀ a : Int,PartsRet w [a] (.returned (.slice (some ⟨w.heap.size + 1,0,none⟩) 1 1)) ((w.alloc (.cells (nodC n) 54)).alloc (.cells #[.int .i64 a] 3)):=fun a =>
  ⟨_,1,1,rfl,rfl,nlr _,by omega,by
   have:=vals_new (w.alloc (.cells (nodC n) 54)) [.int .i64 a] 3 (0,0)
   rw [sizeA'] at this
   rw [sizeA',sizeA'];exact this,(fun ad e => by cases e;show w.heap.size ≤ w.heap.size + 1;omega),alloc2_below _ _ _⟩
 have none_ : PartsRet w [] (.returned (.slice none 0 0)) (w.alloc (.cells (nodC n) 54)) :=
  ⟨_,0,0,rfl,rfl,nlr _,by omega,Vals.none_ _ _ _,(fun ad e => by cases e),(Below.refl _ _).alloc (nlr _) _⟩
 replace two:=lhi two
 replace one:=lhi one
 replace none_:=lhi none_
 by_cases h2 : n.kind = 2
 · rw [partsN_2 h2]
   obtain ⟨k,a,b,lo,hi,g,s⟩:=n
   simp only at h2
   subst h2
   rw [nodV_lit]
   go_enter Try.func31,Try.ntmps31
   go_wp2
   go_ret
   exact two.out a b
 by_cases h3 : n.kind = 3
 · rw [partsN_3 h3]
   obtain ⟨k,a,b,lo,hi,g,s⟩:=n
   simp only at h3
   subst h3
   rw [nodV_lit]
   clear h2
   go_enter Try.func31,Try.ntmps31
   go_wp2
   go_ret
   exact two.out a b
 by_cases h4 : n.kind = 4
 · rw [partsN_4 h4]
   obtain ⟨k,a,b,lo,hi,g,s⟩:=n
   simp only at h4
   subst h4
   rw [nodV_lit]
   clear h2 h3
   go_enter Try.func31,Try.ntmps31
   go_wp2
   go_ret
   exact one.out a
 by_cases h5 : n.kind = 5
 · rw [partsN_5 h5]
   obtain ⟨k,a,b,lo,hi,g,s⟩:=n
   simp only at h5
   subst h5
   rw [nodV_lit]
   clear h2 h3 h4
   go_enter Try.func31,Try.ntmps31
   go_wp2
   go_ret
   exact one.out a
 · rw [partsN_else h2 h3 h4 h5]
   obtain ⟨k,a,b,lo,hi,g,s⟩:=n
   replace h2:=beq_no h2
   replace h3:=beq_no h3
   replace h4:=beq_no h4
   replace h5:=beq_no h5
   simp only at h2 h3 h4 h5
   rw [nodV_lit]
   go_enter Try.func31,Try.ntmps31
   go_wp2
   go_ret
   exact none_.out
theorem areTimes_any (lo hi : Int) (w : World) : Calls Try.prog 46 #[.int .i64 lo,.int .i64 hi] w fun e w' => e = .returned (.bool (timesN lo hi)) ∧ w = w':=by
 have hT : ∀ b,timesN lo hi = b → Ending.returned (.bool b) = .returned (.bool (timesN lo hi)):=fun b h => by rw [h]
 by_cases h1 : lo < 0
 · rw [show timesN lo hi = false by have : ¬ 0 ≤ lo:=by omega
                                    simp [timesN,this]]
   clear hT
   go_enter Try.func46,Try.ntmps46
   go_wp2
   go_ret
   exact ⟨rfl,rfl⟩
 by_cases h2 : 255 < lo
 · rw [show timesN lo hi = false by have : ¬ lo ≤ 255:=by omega
                                    simp [timesN,this]]
   clear hT
   go_enter Try.func46,Try.ntmps46
   go_wp2
   go_ret
   exact ⟨rfl,rfl⟩
 have h1' : 0 ≤ lo:=by omega
 have h2' : lo ≤ 255:=by omega
 by_cases h3 : hi = -1
 · subst h3
   rw [show timesN lo (-1) = true by simp [timesN,h1',h2']]
   clear hT
   go_enter Try.func46,Try.ntmps46
   go_wp2
   go_ret
   exact ⟨rfl,rfl⟩
 have h3':=beq_no h3
 by_cases h4 : lo ≤ hi
 · rw [show timesN lo hi = decide (hi ≤ 255) by simp [timesN,h1',h2',h3,h4]]
   clear hT h3
   go_enter Try.func46,Try.ntmps46
   go_wp2
   go_ret
   exact ⟨rfl,rfl⟩
 · rw [show timesN lo hi = false by simp [timesN,h1',h2',h3,h4]]
   clear hT h3
   go_enter Try.func46,Try.ntmps46
   go_wp2
   go_ret
   exact ⟨rfl,rfl⟩
theorem zset_wd (k : Nat) : wd zset k = 0:=wd_none k
theorem nodC_z (k a b lo hi g : Int) : nodC ⟨k,a,b,lo,hi,g,zset⟩ = #[.int .i64 k,.int .i64 a,.int .i64 b,.int .i64 lo,.int .i64 hi,.int .i64 g,.int .u64 0,.int .u64 0,.int .u64 0,.int .u64 0]:=by
 unfold nodC nodL;rw [zset_wd,zset_wd,zset_wd,zset_wd];rfl
theorem Held.z {w : World} {q : Nat} {t : TypeId} {k a b lo hi g : Int} (h : Held w q t #[.int .i64 k,.int .i64 a,.int .i64 b,.int .i64 lo,.int .i64 hi,.int .i64 g,.int .u64 0,.int .u64 0,.int .u64 0,.int .u64 0]) :
    Held w q t (nodC ⟨k,a,b,lo,hi,g,zset⟩):=by rw [nodC_z];exact h
theorem wanted_any (n : Nod) (w : World) : Calls Try.prog 47 #[nodV n] w fun e w' => e = .returned (nodV (wantedN n)) ∧ Below w.heap.size w w':=by
 have hb:=lhi (alloc2_below w)
 by_cases h1 : n.kind = 1
 · obtain ⟨k,a,b,lo,hi,g,s⟩:=n
   simp only at h1
   subst h1
   rw [show wantedN ⟨1,a,b,lo,hi,g,s⟩ = ⟨1,0,0,0,0,0,s⟩ by rfl,nodV_lit 1 a b lo hi g s]
   go_enter Try.func47,Try.ntmps47
   go_wp2
   exact bodyPost_ret (v:=.agg (nodC (⟨1,0,0,0,0,0,s⟩))) (results_cell_row Try.results47 _ _ (w.heap.size + 1) 54 (nodC (⟨1,0,0,0,0,0,s⟩)) (0,0) _ rfl (held_new2 _ _ _ _) under_nod rfl (nod_size _)) rfl ⟨rfl,hb.out _ _⟩
 by_cases h2 : n.kind = 2
 · obtain ⟨k,a,b,lo,hi,g,s⟩:=n
   simp only at h2
   subst h2
   clear h1
   rw [show wantedN ⟨2,a,b,lo,hi,g,s⟩ = ⟨2,a,b,0,0,0,zset⟩ by rfl,nodV_lit 2 a b lo hi g s]
   go_enter Try.func47,Try.ntmps47
   go_wp2
   exact bodyPost_ret (v:=.agg (nodC (⟨2,a,b,0,0,0,zset⟩))) (results_cell_row Try.results47 _ _ (w.heap.size + 1) 54 (nodC (⟨2,a,b,0,0,0,zset⟩)) (0,0) _ rfl (Held.z (held_new2 _ _ _ _)) under_nod rfl (nod_size _)) rfl ⟨rfl,hb.out _ _⟩
 by_cases h3 : n.kind = 3
 · obtain ⟨k,a,b,lo,hi,g,s⟩:=n
   simp only at h3
   subst h3
   clear h1 h2
   rw [show wantedN ⟨3,a,b,lo,hi,g,s⟩ = ⟨3,a,b,0,0,0,zset⟩ by rfl,nodV_lit 3 a b lo hi g s]
   go_enter Try.func47,Try.ntmps47
   go_wp2
   exact bodyPost_ret (v:=.agg (nodC (⟨3,a,b,0,0,0,zset⟩))) (results_cell_row Try.results47 _ _ (w.heap.size + 1) 54 (nodC (⟨3,a,b,0,0,0,zset⟩)) (0,0) _ rfl (Held.z (held_new2 _ _ _ _)) under_nod rfl (nod_size _)) rfl ⟨rfl,hb.out _ _⟩
 by_cases h4 : n.kind = 4
 · obtain ⟨k,a,b,lo,hi,g,s⟩:=n
   simp only at h4
   subst h4
   clear h1 h2 h3
   rw [show wantedN ⟨4,a,b,lo,hi,g,s⟩ = ⟨4,a,0,lo,hi,0,zset⟩ by rfl,nodV_lit 4 a b lo hi g s]
   go_enter Try.func47,Try.ntmps47
   go_wp2
   exact bodyPost_ret (v:=.agg (nodC (⟨4,a,0,lo,hi,0,zset⟩))) (results_cell_row Try.results47 _ _ (w.heap.size + 1) 54 (nodC (⟨4,a,0,lo,hi,0,zset⟩)) (0,0) _ rfl (Held.z (held_new2 _ _ _ _)) under_nod rfl (nod_size _)) rfl ⟨rfl,hb.out _ _⟩
 by_cases h5 : n.kind = 5
 · obtain ⟨k,a,b,lo,hi,g,s⟩:=n
   simp only at h5
   subst h5
   clear h1 h2 h3 h4
   rw [show wantedN ⟨5,a,b,lo,hi,g,s⟩ = ⟨5,a,0,0,0,g,zset⟩ by rfl,nodV_lit 5 a b lo hi g s]
   go_enter Try.func47,Try.ntmps47
   go_wp2
   exact bodyPost_ret (v:=.agg (nodC (⟨5,a,0,0,0,g,zset⟩))) (results_cell_row Try.results47 _ _ (w.heap.size + 1) 54 (nodC (⟨5,a,0,0,0,g,zset⟩)) (0,0) _ rfl (Held.z (held_new2 _ _ _ _)) under_nod rfl (nod_size _)) rfl ⟨rfl,hb.out _ _⟩
 by_cases h6 : n.kind = 6
 · obtain ⟨k,a,b,lo,hi,g,s⟩:=n
   simp only at h6
   subst h6
   clear h1 h2 h3 h4 h5
   rw [show wantedN ⟨6,a,b,lo,hi,g,s⟩ = ⟨6,0,0,0,0,g,zset⟩ by rfl,nodV_lit 6 a b lo hi g s]
   go_enter Try.func47,Try.ntmps47
   go_wp2
   exact bodyPost_ret (v:=.agg (nodC (⟨6,0,0,0,0,g,zset⟩))) (results_cell_row Try.results47 _ _ (w.heap.size + 1) 54 (nodC (⟨6,0,0,0,0,g,zset⟩)) (0,0) _ rfl (Held.z (held_new2 _ _ _ _)) under_nod rfl (nod_size _)) rfl ⟨rfl,hb.out _ _⟩
 · obtain ⟨k,a,b,lo,hi,g,s⟩:=n
   rw [show wantedN ⟨k,a,b,lo,hi,g,s⟩ = ⟨k,0,0,0,0,0,zset⟩ by simp only at h1 h2 h3 h4 h5 h6;simp [wantedN,h1,h2,h3,h4,h5,h6],nodV_lit k a b lo hi g s]
   replace h1:=beq_no h1
   replace h2:=beq_no h2
   replace h3:=beq_no h3
   replace h4:=beq_no h4
   replace h5:=beq_no h5
   replace h6:=beq_no h6
   simp only at h1 h2 h3 h4 h5 h6
   go_enter Try.func47,Try.ntmps47
   go_wp2
   exact bodyPost_ret (v:=.agg (nodC (⟨k,0,0,0,0,0,zset⟩))) (results_cell_row Try.results47 _ _ (w.heap.size + 1) 54 (nodC (⟨k,0,0,0,0,0,zset⟩)) (0,0) _ rfl (Held.z (held_new2 _ _ _ _)) under_nod rfl (nod_size _)) rfl ⟨rfl,hb.out _ _⟩
section
variable {P : Program} {w : World}
theorem run_append_nil (base : Nat) (t ty e : TypeId) (i : TypeInfo) (ht : P.underlying t = some (.slice e)) (hi : P.info? e = some i)
    (v : Value) (n : Nat) (xs : List Value) (hown : w.ownsRow base e 1 v n xs) (c : Nat) : (Builtin.append_ #[t,t] ty #[v,.slice none 0 c]).run P w = .ok v w:=by
 obtain ⟨_,⟨rfl,rfl⟩ | ⟨g,cap,cur,rfl,_,_,hnc,_⟩⟩:=hown
 · simp [Builtin.append_,run_underlying ht,sizeOf,typeInfo,hi,Builtin.lenOf,Builtin.firstCells]
 · simp [Builtin.append_,run_underlying ht,sizeOf,typeInfo,hi,Builtin.lenOf,Builtin.firstCells,hnc,storeCells]
theorem new_cells (w : World) (xs : List Value) (t : TypeId) : ∀ j u,xs[j]? = some u → (w.alloc (.cells xs.toArray t)).cell? ((⟨w.heap.size,0,none⟩ : Addr).add j) = some u:=by
 intro j u h
 rw [add_zero_off,cell_of_row _ _ j _ t _ (heap_alloc_new w _)]
 simpa using h
end
end Go.Proofs.Ytbdfhmefjfaofaa
