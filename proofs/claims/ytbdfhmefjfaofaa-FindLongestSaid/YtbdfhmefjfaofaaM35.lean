/- Contracts and plain facts: M35. -/
import Derived.Test.YtbdfhmefjfaofaaM34
set_option linter.unusedVariables false
set_option linter.unusedSimpArgs false
set_option maxRecDepth 100000
set_option maxHeartbeats 32000000
namespace Go.Proofs.Ytbdfhmefjfaofaa
open Go.RowKit Go.Shelf
def rPost (X : Nat → Prop) (l D : Nat) (I : List Spn → World → Prop) (Ix : Nat → List Spn → World → Prop) (xs : List Spn) (W : World) : Exit → Act → World → Prop
 | .normal,_,W' => Kpt X W W' ∧ (W'.heap[l]? = W.heap[l]? ∧ W'.heap[D]? = W.heap[D]?) ∧ I xs W'
 | .exit id,_,W' => (W'.heap[l]? = W.heap[l]? ∧ W'.heap[D]? = W.heap[D]?) ∧ Ix id xs W'
 | .ret,_,_ => False
 | .goto _,_,_ => False
 | .panic _,_,_ => False
 | .outgrown,_,_ => False
theorem Kpt.trans {X : Nat → Prop} {A B C : World} (h : Kpt X A B) (k : Kpt X B C) : Kpt X A C :=
 ⟨k.os.trans h.os,k.tape.trans h.tape,k.output.trans h.output,Nat.le_trans h.size k.size,fun i hi hx => (k.block i (nll hi h.size) hx).trans (h.block i hi hx)⟩
theorem Kpt.of_grown {X : Nat → Prop} {A B : World} {r : Nat} (h : A.grownBy B (some r)) (hx : X r) : Kpt X A B:=⟨h.os,h.tape,h.output,h.size,fun k hk hn => h.block k hk (fun e => hn ((Option.some.inj e) ▸ hx))⟩
theorem Srf.turned' {w w' : World} {B S r : Nat} {An : Option Addr} {nn cn : Nat} {At : Option Addr} {nt ct : Nat} {ns : List Nod} {t : List UInt8} {g left : Int} {short : Bool} (h : Srf w B S An nn cn At nt ct ns t g left short) (hg : w.grownBy w' (some r)) (hB : B ≤ r) (hS : S ≠ r) : Srf w' B S An nn cn At nt ct ns t g left short :=
 ⟨h.held.grown hg (fun e => hS (Option.some.inj e)),h.inn.below ((Below.refl B w).grown hg h.inn.base (fun k e => by cases e;exact hB)),h.base⟩
theorem grown_putObj (W : World) (l : Nat) (o : Obj) : W.grownBy (W.putObj l o) (some l):=grownBy_putObj' W l o
theorem wp_rangeFind {g : Operand} {ps : Array Tmp} {assign body : Code} {Q : Exit → Act → World → Prop} {a : Act} {w : World}
    {Y : Nat → Prop} {B S b1 b2 : Nat} {An : Option Addr} {nn cn : Nat} {At : Option Addr} {nt ct : Nat} {ns : List Nod} {t : List UInt8} {gr M0 : Int} {a0 : Nat}
    (hg : a.eval g = .func (.func 42) #[] #[.pointer (some ⟨b1,0,none⟩),.pointer (some ⟨b2,0,none⟩)]) (hps : ps.size = 1)
    (hs : Srf w B S An nn cn At nt ct ns t gr M0 false) (hb1 : Held w b1 98 #[.pointer (some ⟨S,0,none⟩)]) (hb2 : Held w b2 3 #[.int .i64 (a0 : Int)])
    (hr : rightN ns gr = true) (ha : a0 ≤ t.length) (hm0 : 0 ≤ M0) (hm1 : M0 ≤ 999999) (hYB : ∀ k,k < B → ¬ Y k) (hYS : ¬ Y S) (hY1 : ¬ Y b1) (hS1 : S ≠ b1)
    (I : List Spn → World → Prop) (Ix : Nat → List Spn → World → Prop)
    (hI : ∀ pre A C r,I pre A → A.grownBy C (some r) → (r = S ∨ r = w.heap.size ∨ r = w.heap.size + 1) → I pre C)
    (hIx : ∀ id pre A C,Ix id pre A → A.grownBy C (some (w.heap.size + 1)) → Ix id pre C) (h0 : I [] w)
    (hround : ∀ pre s left W,Yld ns t gr a0 M0 pre s left → Srf W B S An nn cn At nt ct ns t gr left false → I pre W → w.heap.size + 2 ≤ W.heap.size →
     assign.wpIn (Fence.wide.inRound (w.heap.size + 1)) 2 Try.prog (Exit.then (fun a₁ w₁ => Kpt (fun k => Y k ∨ w.heap.size ≤ k) W w₁ ∧ (w₁.heap[w.heap.size + 1]? = W.heap[w.heap.size + 1]? ∧ w₁.heap[w.heap.size]? = W.heap[w.heap.size]?) ∧
         ∀ w₂,w₁.grownBy w₂ (some (w.heap.size + 1)) → body.wpIn (Fence.wide.inRound (w.heap.size + 1)) 2 Try.prog (rPost (fun k => Y k ∨ w.heap.size ≤ k) (w.heap.size + 1) w.heap.size I Ix (pre ++ [s]) w₂) a₁ w₂) (fun _ _ _ => False))
      { tmps:=(ps.zip #[.agg (hitC s)]).foldl (fun t (p,v) => t.setIfInBounds p v) a.tmps,defers:=[] } W)
    (hdone : ∀ (xs : List Spn) (left : Int) (sh : Bool) (W : World),Done12 ns t gr a0 M0 xs left sh → Srf W B S An nn cn At nt ct ns t gr left sh → I xs W → W.heap[w.heap.size]? = some (.deferred (some [])) →
     Q .normal { a with defers:={ target:=.collected w.heap.size,args:=#[] } :: a.defers } W)
    (hstop : ∀ (id : Nat) (pre : List Spn) (s : Spn) (left : Int) (W : World),Yld ns t gr a0 M0 pre s left → Ix id (pre ++ [s]) W → W.heap[w.heap.size]? = some (.deferred (some [])) →
     (Code.exit id).wp Try.prog Q { a with defers:={ target:=.collected w.heap.size,args:=#[] } :: a.defers } W) :
    (Code.rangeFunc g ps assign body).wp Try.prog Q a w:=by
 refine wpIn_wide (n:=3).1 (wpIn_rangeFunc ?_)
 intro fn hfn
 obtain ⟨rec,hrec⟩ : ∃ rec : LoopState → Option Code → Loop,rec = fun st pe => { state:=st,pending:=pe,fn,tmps:=a.tmps,params:=ps,assign,body,defers:=w.heap.size }:=⟨_,rfl⟩
 obtain ⟨W1,hW1⟩ : ∃ W1,(w.alloc (.deferred (some []))).alloc (.loop (rec .ready none)) = W1:=⟨_,rfl⟩
 have hL1 : W1.heap[w.heap.size + 1]? = some (.loop (rec .ready none)):=by
  rw [← hW1];have:=World.alloc_heap_new (w.alloc (.deferred (some []))) (.loop (rec .ready none));rwa [World.size_alloc] at this
 have hK1 : W1.heap[w.heap.size]? = some (.deferred (some [])):=by
  rw [← hW1];exact (Below.heap_alloc _ _ _ (by simp)).trans (World.alloc_heap_new w _)
 have hb : Below w.heap.size w W1:=by
  rw [← hW1];exact ((Below.refl _ w).alloc (nlr _) _).alloc (by simp) _
 have hSw:=hs.held.lt
 have hI1 : I [] W1:=hI [] w W1 S h0 (grown_of hb _) (.inl rfl)
 have hn1 : Enters Try.prog 42:=enters_of Try.func42 (by kernel_rfl) rfl
 refine ⟨w.heap.size + 1,[{ target:=.collected w.heap.size,args:=#[] }],W1,{ target:=.fn (.func 42) #[.pointer (some ⟨b1,0,none⟩),.pointer (some ⟨b2,0,none⟩)],args:=#[.func (.yield (w.heap.size + 1)) #[] #[]] },W1,42,
  #[.func (.yield (w.heap.size + 1)) #[] #[]] ++ #[.pointer (some ⟨b1,0,none⟩),.pointer (some ⟨b2,0,none⟩)],W1,?_,?_,?_,?_,fun _ => by decide,?_⟩
 · rw [← hW1,hrec];exact run_enterLoop_outer _ _ _ _ _
 · simp only [resolve,hg]
   simp [go_sem]
 · intro f' hf';trivial
 · have hn2:=hn1
   simp [invoke,go_sem,hn2 _ _]
 · refine callsIn_wide.2 ?_
   have hlt1 : w.heap.size + 1 < W1.heap.size:=(Array.getElem?_eq_some_iff.1 hL1).1
   have hkk : ∀ {A C : World} {r : Nat} {o : Obj},A.grownBy C (some r) → r = S → A.heap[w.heap.size]? = some o → C.heap[w.heap.size]? = some o:=fun h e ho => (h.block _ (Array.getElem?_eq_some_iff.1 ho).1 (fun q => by have:=Option.some.inj q;omega)).trans ho
   have hkl : ∀ {A C : World} {r : Nat} {o : Obj},A.grownBy C (some r) → r = S → A.heap[w.heap.size + 1]? = some o → C.heap[w.heap.size + 1]? = some o:=fun h e ho => (h.block _ (Array.getElem?_eq_some_iff.1 ho).1 (fun q => by have:=Option.some.inj q;omega)).trans ho
   refine (iter_any (X:=fun k => Y k ∨ w.heap.size ≤ k) (w.heap.size + 1)
    (fun pre W => I pre W ∧ W.heap[w.heap.size + 1]? = some (.loop (rec .ready none)) ∧ W.heap[w.heap.size]? = some (.deferred (some [])))
    (fun pre W => ∃ id,Ix id pre W ∧ W.heap[w.heap.size + 1]? = some (.loop (rec .done (some (.exit id)))) ∧ W.heap[w.heap.size]? = some (.deferred (some [])))
    (fun pre A C hA hg' => ⟨hI pre A C S hA.1 hg' (.inl rfl),hkl hg' rfl hA.2.1,hkk hg' rfl hA.2.2⟩) ?_ W1 (hs.keep hb) (hb1.keep hb) (hb2.keep hb) ⟨hI1,hL1,hK1⟩ hr ha hm0 hm1
    (fun k hk h => h.elim (hYB k hk) (fun h => by have:=hs.inn.base;omega)) (fun h => h.elim hYS (fun h => by omega)) (fun h => h.elim hY1 (fun h => by have:=hb1.lt;omega)) hS1).mono ?_
   · -- a round
     rintro pre s left W hyl hsW ⟨hi,hl,hk⟩
     have hlt : w.heap.size + 1 < W.heap.size:=(Array.getElem?_eq_some_iff.1 hl).1
     have hy:=run_yield (P:=Try.prog) (args:=#[.agg (hitC s)]) hl (by rw [hrec];show 1 = ps.size;exact hps.symm)
     rw [hrec] at hy
     refine ⟨fn,_,assign,body,hy,roundIn_of_wpIn hfn (wpIn_mono (hround pre s left W hyl hsW hi (by omega)) ?_)⟩
     rintro e1 a1 w1 hq
     cases e1 with
     | normal =>
      obtain ⟨hk1,⟨hl1,hd1⟩,hbody⟩:=hq
      rw [hl] at hl1
      rw [hk] at hd1
      refine ⟨_,run_beginRound hl1 (by rw [hrec]),?_⟩
      have hlt1' : w.heap.size + 1 < w1.heap.size:=(Array.getElem?_eq_some_iff.1 hl1).1
      have hl2 : (w1.putObj (w.heap.size + 1) (.loop { rec .ready none with state:=.busy })).heap[w.heap.size + 1]? = some (.loop { rec .ready none with state:=.busy }):=World.putObj_heap_same hlt1'
      have hk2 : (w1.putObj (w.heap.size + 1) (.loop { rec .ready none with state:=.busy })).heap[w.heap.size]? = some (.deferred (some [])):=(World.putObj_heap_other (by omega)).trans hd1
      have hgp:=grown_putObj w1 (w.heap.size + 1) (.loop { rec .ready none with state:=.busy })
      refine wpIn_mono (hbody _ hgp) ?_
      rintro e3 a3 W3 hp
      cases e3 with
      | normal =>
       obtain ⟨hk3,⟨hl3,hd3⟩,hi3⟩:=hp
       rw [hl2] at hl3
       rw [hk2] at hd3
       have hrun:=run_endRound (P:=Try.prog) none hl3
       refine ⟨_,_,hrun,.inl ⟨rfl,⟨hI _ _ _ _ hi3 (grown_putObj W3 (w.heap.size + 1) _) (.inr (.inr rfl)),?_,(World.putObj_heap_other (by omega)).trans hd3⟩,(hk1.trans (Kpt.of_grown hgp (.inr (Nat.le_succ _)))).trans (hk3.trans (Kpt.of_grown (grown_putObj W3 (w.heap.size + 1) _) (.inr (Nat.le_succ _))))⟩⟩
       rw [World.putObj_heap_same (Array.getElem?_eq_some_iff.1 hl3).1,hrec]
       rfl
      | exit id =>
       obtain ⟨⟨hl3,hd3⟩,hi3⟩:=hp
       rw [hl2] at hl3
       rw [hk2] at hd3
       have hrun:=run_endRound (P:=Try.prog) (some (.exit id)) hl3
       refine ⟨_,_,hrun,.inr ⟨rfl,id,hIx _ _ _ _ hi3 (grown_putObj W3 (w.heap.size + 1) _),?_,(World.putObj_heap_other (by omega)).trans hd3⟩⟩
       rw [World.putObj_heap_same (Array.getElem?_eq_some_iff.1 hl3).1,hrec]
       rfl
      | ret => exact hp.elim
      | goto _ => exact hp.elim
      | panic _ => exact hp.elim
      | outgrown => exact hp.elim
     | exit id => exact hq.elim
     | ret => exact hq.elim
     | goto _ => exact hq.elim
     | panic _ => exact hq.elim
     | outgrown => exact hq.elim
   · -- behind the iterator
     have fin : ∀ (W2 : World) (xs : List Spn) (left : Int) (sh : Bool),Done12 ns t gr a0 M0 xs left sh → Srf W2 B S An nn cn At nt ct ns t gr left sh → I xs W2 → W2.heap[w.heap.size + 1]? = some (.loop (rec .ready none)) → W2.heap[w.heap.size]? = some (.deferred (some [])) → rangePost Fence.wide 3 Try.prog (w.heap.size + 1) Q { a with defers:=[{ target:=.collected w.heap.size,args:=#[] }] ++ a.defers } (.returned (.tuple #[])) W2:=fun W2 xs left sh h1 hsr hi hl hk => by
      have hrun:=run_endLoop (P:=Try.prog) hl (by rw [hrec];simp)
      rw [hrec] at hrun
      refine ⟨none,_,hrun,hdone xs left sh _ h1 (hsr.turned' (grown_putObj W2 (w.heap.size + 1) _) (by have:=hs.inn.base;omega) (by omega)) (hI _ _ _ _ hi (grown_putObj W2 (w.heap.size + 1) _) (.inr (.inr rfl))) ((World.putObj_heap_other (by omega)).trans hk)⟩
     rintro e W2 ⟨rfl,h | h⟩
     · obtain ⟨xs,left,sh,hA,⟨hi,hl,hk⟩,hsr⟩:=h
       exact fin W2 xs left sh hA hsr hi hl hk
     · obtain ⟨pre,s,left,hyl,id,hi,hl,hk⟩:=h
       have hrun:=run_endLoop (P:=Try.prog) hl (by rw [hrec];simp)
       rw [hrec] at hrun
       exact ⟨some (.exit id),_,hrun,wpIn_wide.2 (hstop id pre s left _ hyl (hIx _ _ _ _ hi (grown_putObj W2 (w.heap.size + 1) _)) ((World.putObj_heap_other (by omega)).trans hk))⟩
theorem matches_any (S a0 : Nat) (w : World) : Calls Try.prog 28 #[.pointer (some ⟨S,0,none⟩),.int .i64 (a0 : Int)] w fun e w' => e = .returned (.func (.func 42) #[] #[.pointer (some ⟨w.heap.size,0,none⟩),.pointer (some ⟨w.heap.size + 1,0,none⟩)]) ∧ Held w' w.heap.size 98 #[.pointer (some ⟨S,0,none⟩)] ∧ Held w' (w.heap.size + 1) 3 #[.int .i64 (a0 : Int)] ∧ Below w.heap.size w w':=by
 have hb:=lhi (((Below.refl w.heap.size w).alloc (nlr _) (.cells #[.pointer (some ⟨S,0,none⟩)] 98)).alloc (by simp) (.cells #[.int .i64 (a0 : Int)] 3))
 have h1:=lhi ((held_new w 98 #[.pointer (some ⟨S,0,none⟩)]).alloc (.cells #[.int .i64 (a0 : Int)] 3))
 have h2:=lhi (held_new2 w (.cells #[.pointer (some ⟨S,0,none⟩)] 98) 3 #[.int .i64 (a0 : Int)])
 go_enter Try.func28,Try.ntmps28
 go_wp2
 go_ret
 exact ⟨rfl,h1.out,h2.out,hb.out⟩
def hitsL (l : List Spn) : List Value:=l.flatMap hitL
theorem hitsL_len (l : List Spn) : (hitsL l).length = l.length * 20:=by
 induction l with
 | nil => rfl
 | cons x r ih => unfold hitsL at ih ⊢;rw [List.flatMap_cons,lla,ih,hitL_len,List.length_cons];omega
theorem hitsL_app (a b : List Spn) : hitsL (a ++ b) = hitsL a ++ hitsL b:=by simp [hitsL]
theorem hitsL_one (s : Spn) : hitsL [s] = hitL s:=by simp [hitsL]
theorem hit_infoz : (Try.prog.info? 31).map (fun i => (i.zero,i.size,i.bytes)) = some (some (.agg #[.int .i64 0,.int .i64 0,.int .i64 0,.int .i64 0,.int .i64 0,.int .i64 0,.int .i64 0,.int .i64 0,.int .i64 0,.int .i64 0,.int .i64 0,.int .i64 0,.int .i64 0,.int .i64 0,.int .i64 0,.int .i64 0,.int .i64 0,.int .i64 0,.int .i64 0,.int .i64 0]),20,160):=by kernel_rfl
theorem fill_hit (s : Spn) : Instr.fill (fun i => some (i * 20,20)) ((Array.range (1 * 20)).map ((Value.agg #[.int .i64 0,.int .i64 0,.int .i64 0,.int .i64 0,.int .i64 0,.int .i64 0,.int .i64 0,.int .i64 0,.int .i64 0,.int .i64 0,.int .i64 0,.int .i64 0,.int .i64 0,.int .i64 0,.int .i64 0,.int .i64 0,.int .i64 0,.int .i64 0,.int .i64 0,.int .i64 0]).cells[· % 20]!)) [(0,.agg (hitC s))] = some (hitC s):=by kernel_rfl
theorem wpListIn_build_one {F : Fence} {m : Nat} {ops : Array Oper} {rest : List Oper} {o : Oper} {a : Act} {w : World} {Q : Exit → Act → World → Prop} (hgd : o.guard = none) (x : Operand) (ho : o.op = .buildSlice 42 1 #[(0,x)]) (s : Spn) (C : Array Value) (hC : hitC s = C) (hx : a.eval x = .agg C)
    (h : wpListIn F m Try.prog ops Q rest (a.put o.dst (.slice (some ⟨w.heap.size,0,none⟩) 1 1)) (w.alloc (.cells C 31))) : wpListIn F m Try.prog ops Q (o :: rest) a w :=
 wpListIn_plain hgd fun K hK => by
  subst hC
  obtain ⟨i0,hi0,hq0,hq1,hq2⟩:=info_parts hit_infoz
  refine ⟨fun f hf => by simp [Oper.about,ho] at hf,?_⟩
  rw [Oper.semAt_eq _ _ _ (by rw [ho];intro c hc;cases hc)]
  have hf : Instr.fill (fun i => some (i * i0.size,i0.size)) ((Array.range (1 * i0.size)).map ((Value.agg #[.int .i64 0,.int .i64 0,.int .i64 0,.int .i64 0,.int .i64 0,.int .i64 0,.int .i64 0,.int .i64 0,.int .i64 0,.int .i64 0,.int .i64 0,.int .i64 0,.int .i64 0,.int .i64 0,.int .i64 0,.int .i64 0,.int .i64 0,.int .i64 0,.int .i64 0,.int .i64 0]).cells[· % (Value.agg #[.int .i64 0,.int .i64 0,.int .i64 0,.int .i64 0,.int .i64 0,.int .i64 0,.int .i64 0,.int .i64 0,.int .i64 0,.int .i64 0,.int .i64 0,.int .i64 0,.int .i64 0,.int .i64 0,.int .i64 0,.int .i64 0,.int .i64 0,.int .i64 0,.int .i64 0,.int .i64 0]).cells.size]!)) ((#[(0,x)] : Array (Nat × Operand)).map fun (i,x) => (i,a.eval x)).toList = some (hitC s):=by
   rw [hq1]
   simp only [List.map_toArray,List.map_cons,List.map_nil,hx]
   exact fill_hit s
  unfold execOp
  simp only [ho,Sem.run_bind,run_buildSlice w 42 31 1 _ (hitC s) i0 _ Try.underlying42 hi0 hq0 (by rw [hq1];decide) (by rw [hq1];decide) hf,Result.andThen_ok]
  exact hK _ _ h
theorem new_listF (w : World) (C : Array Value) (T : TypeId) : ∀ j u,C.toList[j]? = some u → (w.alloc (.cells C T)).cell? ((⟨w.heap.size,0,none⟩ : Addr).add j) = some u:=fun j u hj => by
 have:=new_cells w C.toList T j u hj
 rwa [Array.toArray_toList] at this
theorem Pre12.count {ns : List Nod} {t : List UInt8} {n last : Int} {a0 : Nat} {e0 M0 : Int} {l : List Spn} {a : Nat} {e M : Int} (h : Pre12 ns t n last a0 e0 M0 l a e M) : l.length ≤ a:=by
 induction h with
 | refl => exact Nat.zero_le _
 | miss _ _ _ ih => omega
 | drop _ _ _ _ ih => omega
 | take _ _ _ _ hb ih => simp;omega
theorem results_cell3S {fn : Func} {p q r : Tmp} (h : fn.results = #[.cell p 42,.tmp q,.tmp r]) (tmps : Array Value) (w : World) (g : Nat) (v : Value) (hp : tmps.getD p undef = .pointer (some ⟨g,0,none⟩)) {x y : Value} (hx : tmps.getD q undef = x) (hy : tmps.getD r undef = y) (hg : w.cell? ⟨g,0,none⟩ = some v) :
    (results fn tmps).run Try.prog w = .ok (.tuple #[v,x,y]) w:=by
 have hp' : tmps[p]?.getD undef = .pointer (some ⟨g,0,none⟩):=by simpa using hp
 have hx' : tmps[q]?.getD undef = x:=by simpa using hx
 have hy' : tmps[r]?.getD undef = y:=by simpa using hy
 have hia : (isAgg 42).run Try.prog w = .ok false w:=run_isAgg_plain Try.underlying42 rfl w
 have hl : (load ⟨g,0,none⟩).run Try.prog w = .ok v w:=by
  simp [hg]
 have hlv : (loadVar 42 ⟨g,0,none⟩).run Try.prog w = .ok v w:=by
  unfold loadVar
  simp only [Sem.run_bind,hia,Result.andThen_ok]
  exact hl
 simp [results,h,hp',hx',hy',asAddr,hlv]
theorem ownsRow_slice {W : World} {base : Nat} {e : TypeId} {size : Nat} {v : Value} {k : Nat} {xs : List Value} (h : W.ownsRow base e size v k xs) : ∃ A n c,v = .slice A n c:=by
 rcases h.2 with ⟨rfl,_⟩ | ⟨g,cap,_,rfl,_⟩
 · exact ⟨_,_,_,rfl⟩
 · exact ⟨_,_,_,rfl⟩
theorem ownsRow_base {W : World} {b b' : Nat} {e : TypeId} {size : Nat} {v : Value} {k : Nat} {xs : List Value} (h : W.ownsRow b e size v k xs) (hb : b' ≤ b) : W.ownsRow b' e size v k xs:=by
 refine ⟨h.1,?_⟩
 rcases h.2 with hn | ⟨g,cap,cur,rfl,hgb,rest⟩
 · exact .inl hn
 · exact .inr ⟨g,cap,cur,rfl,Nat.le_trans hb hgb,rest⟩
def AllQ (w : World) (ns : List Nod) (g : Int) (t : List UInt8) (fuel : Int) (e : Ending) (w' : World) : Prop :=
 (¬ (rightN ns g = true ∧ 0 ≤ fuel) ∧ e = .returned (.tuple #[.slice none 0 0,.int .i64 0,.int .i64 1])) ∨
 ((rightN ns g = true ∧ 0 ≤ fuel) ∧ All12 ns t ((ns.length : Int) - 1) (lastP ns t g) 0 (-1) fuel none ∧ e = .returned (.tuple #[.slice none 0 0,.int .i64 0,.int .i64 18])) ∨
 ((rightN ns g = true ∧ 0 ≤ fuel) ∧ ∃ xs left v,All12 ns t ((ns.length : Int) - 1) (lastP ns t g) 0 (-1) fuel (some (xs,left)) ∧ e = .returned (.tuple #[v,.int .i64 left,.int .i64 0]) ∧ w'.ownsRow w.heap.size 31 20 v xs.length (hitsL xs))
end Go.Proofs.Ytbdfhmefjfaofaa
