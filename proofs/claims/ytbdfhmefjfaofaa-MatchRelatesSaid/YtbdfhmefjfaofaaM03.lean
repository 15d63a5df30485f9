/- Contracts and plain facts: M03. -/
import Derived.Test.YtbdfhmefjfaofaaM02
import Derived.Deep.MidRow
set_option linter.unusedVariables false
set_option linter.unusedSimpArgs false
set_option maxRecDepth 100000
set_option maxHeartbeats 32000000
namespace Go.Proofs.Ytbdfhmefjfaofaa
open Go.RowKit
structure Nod where
 kind : Int
 a : Int
 b : Int
 lo : Int
 hi : Int
 grp : Int
 set : Nat → Bool
def zset : Nat → Bool:=fun _ => false
def nodL (n : Nod) : List Value:=[.int .i64 n.kind,.int .i64 n.a,.int .i64 n.b,.int .i64 n.lo,.int .i64 n.hi,.int .i64 n.grp,.int .u64 (wd n.set 0 : Nat),.int .u64 (wd n.set 1 : Nat),.int .u64 (wd n.set 2 : Nat),.int .u64 (wd n.set 3 : Nat)]
def nodC (n : Nod) : Array Value:=(nodL n).toArray
def nodV (n : Nod) : Value:=.agg (nodC n)
theorem nodL_len (n : Nod) : (nodL n).length = 10:=rfl
theorem nod_one (n : Nod) : ∀ v ∈ nodL n,v.oneCell' = true:=by simp [nodL,Value.oneCell']
theorem nod_cells (n : Nod) : (nodC n).all (·.oneCell') = true:=all_oneCell_toArray (nod_one n)
noncomputable def sameN (n m : Nod) : Bool:=@decide (nodL n = nodL m) (Classical.propDecidable _)
theorem sameN_iff (n m : Nod) : sameN n m = true ↔ nodL n = nodL m:=by unfold sameN;exact @decide_eq_true_iff _ (Classical.propDecidable _)
theorem sameN_self (n : Nod) : sameN n n = true:=(sameN_iff n n).2 rfl
theorem nodL_iff (n m : Nod) : nodL n = nodL m ↔ n.kind = m.kind ∧ n.a = m.a ∧ n.b = m.b ∧ n.lo = m.lo ∧ n.hi = m.hi ∧ n.grp = m.grp ∧ sameS n.set m.set = true:=by
 have hb : ∀ k,(((wd n.set k : Nat) : Int) = ((wd m.set k : Nat) : Int)) ↔ wd n.set k = wd m.set k:=fun k => by omega
 simp only [nodL,List.cons.injEq,Value.int.injEq,true_and,and_true,hb]
 unfold sameS
 rw [decide_eq_true_eq]
theorem sameN_and (n m : Nod) : sameN n m = (decide (n.kind = m.kind) && (decide (n.a = m.a) && (decide (n.b = m.b) && (decide (n.lo = m.lo) && (decide (n.hi = m.hi) && (decide (n.grp = m.grp) && sameS n.set m.set)))))):=by
 rw [Bool.eq_iff_iff,sameN_iff,nodL_iff]
 simp only [Bool.and_eq_true,decide_eq_true_eq]
theorem size_nod : (Try.prog.info? 54).map (·.size) = some 10:=by kernel_rfl
theorem nod_size (n : Nod) : (Try.prog.info? 54).map (·.size) = some (nodC n).size:=size_nod
theorem guard_nod : Try.prog.eqGuardType Try.prog.depth 54 = false:=by kernel_rfl
theorem part_int (w : World) (n : Nod) (k : Nat) (x : Int) (h : (nodC n)[k]? = some (.int .i64 x)) : (part 3 (nodC n) k).run Try.prog w = .ok (.int .i64 x) w:=by
 unfold part
 have e : (isAgg 3).run Try.prog w = .ok false w:=by
  unfold isAgg
  rw [Sem.run_bind,run_underlying Try.underlying3]
  rfl
 rw [Sem.run_bind,e]
 simp [h]
theorem part_set (w : World) (n : Nod) : (part 51 (nodC n) 6).run Try.prog w = .ok (setV n.set) w:=by
 unfold part
 have e : (isAgg 51).run Try.prog w = .ok true w:=by
  unfold isAgg
  rw [Sem.run_bind,run_underlying Try.underlying51]
  rfl
 have hs : (sizeOf 51).run Try.prog w = .ok 4 w:=by
  obtain ⟨i,hi,hs⟩:=Option.map_eq_some_iff.1 (set_size n.set)
  simp [sizeOf,typeInfo,hi,hs,setC]
 rw [Sem.run_bind,e]
 simp only [Result.andThen_ok,if_true,Sem.run_bind,hs]
 simp [nodC,nodL,setV,setC]
def fldK (f : Field) : Bool × TypeId × Nat := (f.name != "_", f.type, f.offset)
theorem eqFields_cons (P : Program) (d : Nat) (xs ys : Array Value) (f : Field) (fs : List Field) (t : TypeId) (o : Nat) (h : fldK f = (true,t,o)) (a b : Value) (r : Bool) (w : World) (ha : (part t xs o).run P w = .ok a w) (hb : (part t ys o).run P w = .ok b w)
    (hr : (Op.equalIn d t a b).run P w = .ok r w) : (Op.eqFields d xs ys (f :: fs)).run P w = if r then (Op.eqFields d xs ys fs).run P w else .ok false w:=by
 simp only [fldK,Prod.mk.injEq,bne_iff_ne] at h
 obtain ⟨h1,h2,h3⟩:=h
 subst h2
 subst h3
 simp only [Op.eqFields,if_pos h1,Sem.run_bind,ha,hb,hr,Result.andThen_ok]
 cases r <;> simp
theorem flds_nod : (Try.prog.fieldsOf 54).toList.map fldK = [(true,3,0),(true,3,1),(true,3,2),(true,3,3),(true,3,4),(true,3,5),(true,51,6)]:=by kernel_rfl
theorem under_nod : Try.prog.underlying 54 = some (.struct (Try.prog.fieldsOf 54)):=by kernel_rfl
theorem stood_nod : Try.prog.stoodInHeld 54 = false:=by kernel_rfl
theorem int_beq (a b : Int) : (a == b) = decide (a = b):=by rw [Bool.eq_iff_iff,beq_iff_eq,decide_eq_true_eq]
theorem run_equalIn_nod (w : World) (n m : Nod) : (Op.equalIn 10000 54 (nodV n) (nodV m)).run Try.prog w = .ok (sameN n m) w:=by
 unfold nodV
 rw [run_equalIn_struct w 9999 _ _ _ under_nod stood_nod,sameN_and]
 have hf:=flds_nod
 generalize (Try.prog.fieldsOf 54).toList = L at hf
 match L,(show L.length = 7 by have:=congrArg List.length hf;simpa using this),hf with
 | [f0,f1,f2,f3,f4,f5,f6],_,hf =>
  simp only [List.map_cons,List.map_nil,List.cons.injEq,and_true] at hf
  obtain ⟨h0,h1,h2,h3,h4,h5,h6⟩:=hf
  have hi : ∀ a b : Int,(Op.equalIn 9999 3 (.int .i64 a) (.int .i64 b)).run Try.prog w = .ok (decide (a = b)) w:=fun a b => by
   rw [← int_beq];exact run_equalIn_int w 9998 _ .i64 .i64 a b Try.underlying3
  rw [eqFields_cons Try.prog 9999 _ _ f0 _ _ _ h0 _ _ _ w (part_int w n 0 n.kind rfl) (part_int w m 0 m.kind rfl) (hi _ _)]
  rw [eqFields_cons Try.prog 9999 _ _ f1 _ _ _ h1 _ _ _ w (part_int w n 1 n.a rfl) (part_int w m 1 m.a rfl) (hi _ _)]
  rw [eqFields_cons Try.prog 9999 _ _ f2 _ _ _ h2 _ _ _ w (part_int w n 2 n.b rfl) (part_int w m 2 m.b rfl) (hi _ _)]
  rw [eqFields_cons Try.prog 9999 _ _ f3 _ _ _ h3 _ _ _ w (part_int w n 3 n.lo rfl) (part_int w m 3 m.lo rfl) (hi _ _)]
  rw [eqFields_cons Try.prog 9999 _ _ f4 _ _ _ h4 _ _ _ w (part_int w n 4 n.hi rfl) (part_int w m 4 m.hi rfl) (hi _ _)]
  rw [eqFields_cons Try.prog 9999 _ _ f5 _ _ _ h5 _ _ _ w (part_int w n 5 n.grp rfl) (part_int w m 5 m.grp rfl) (hi _ _)]
  rw [eqFields_cons Try.prog 9999 _ _ f6 _ _ _ h6 _ _ _ w (part_set w n) (part_set w m) (run_equalIn_set' 9998 (fun a b w => run_equalIn_int w 9997 _ .u64 .u64 a b Try.underlying49) w n.set m.set)]
  simp only [Op.eqFields,Sem.run_pure]
  cases decide (n.kind = m.kind) <;> cases decide (n.a = m.a) <;> cases decide (n.b = m.b) <;> cases decide (n.lo = m.lo) <;> cases decide (n.hi = m.hi) <;> cases decide (n.grp = m.grp) <;> cases sameS n.set m.set <;> rfl
theorem nod_eql (w : World) (n m : Nod) : (binOp .eql 54 (nodV n) (nodV m)).run Try.prog w = .ok (.bool (sameN n m)) w :=
 (run_eql_struct w _ _ _).trans (by have:=run_equalIn_nod w n m;unfold nodV at this;rw [this];rfl)
theorem nod_guard (w : World) (op : BinOp) (x y : Operand) (n m : Nod) : (eqGuard op 54 x y (nodV n) (nodV m)).run Try.prog w = .ok () w:=run_eqGuard_agg w op _ x y _ _ guard_nod
def Nods (w : World) (B : Nat) (A : Option Addr) (ns : List Nod) : Prop :=
 ∀ (k : Nat) (h : k < ns.length),∃ ad,A = some ad ∧ ad.block < B ∧ ∀ j u,(nodL (ns[k]'h))[j]? = some u → w.cell? (ad.add (k * 10 + j)) = some u
section
variable {w w' : World} {B B' : Nat} {A : Option Addr} {ns : List Nod}
theorem spot_none {a : Addr} {v : Value} (h : w.cell? a = some v) : a.spot = none:=by
 unfold World.cell? at h
 split at h
 · split at h
   · cases h
   · simpa using ‹¬ a.spot.isSome = true›
 · cases h
theorem Nods.at_ (h : Nods w B A ns) {k : Nat} (hk : k < ns.length) : ∃ ad b o,A = some ad ∧ ad.add (k * 10) = ⟨b,o,none⟩ ∧ b < B ∧ w.rangeAt b o (nodL (ns[k]'hk)):=by
 obtain ⟨ad,h1,h2,h3⟩:=h k hk
 have h0:=spot_none (h3 0 _ rfl)
 rw [Nat.add_zero] at h0
 have e : ad.add (k * 10) = ⟨(ad.add (k * 10)).block,(ad.add (k * 10)).off,none⟩:=by rw [← h0]
 refine ⟨ad,_,_,h1,e,by rw [block_add];exact h2,fun j u hj => ?_⟩
 rw [← Addr.add_mid,← e,add_two]
 exact h3 j u hj
theorem Nods.keep (h : Nods w B A ns) (hk : ∀ p : Addr,p.block < B → w'.cell? p = w.cell? p) : Nods w' B A ns:=by
 intro k hlt
 obtain ⟨ad,hA,hb,hc⟩:=h k hlt
 exact ⟨ad,hA,hb,fun j u hj => (hk _ (by rw [block_add];exact hb)).trans (hc j u hj)⟩
theorem Nods.below (h : Nods w B A ns) (hb : Below B w w') : Nods w' B A ns:=h.keep fun _ hp => hb.cell hp
theorem Nods.more (h : Nods w B A ns) (hB : B ≤ B') : Nods w B' A ns:=fun k hk =>
 let ⟨ad,hA,hb,hc⟩:=h k hk;⟨ad,hA,nll hb hB,hc⟩
theorem Nods.none_ (w : World) (B : Nat) (A : Option Addr) : Nods w B A []:=fun _ h => absurd h (by simp)
theorem Nods.take (h : Nods w B A ns) (m : Nat) : Nods w B A (ns.take m):=fun k hk => by
 rw [List.length_take] at hk
 obtain ⟨ad,hA,hb,hc⟩:=h k (by omega)
 exact ⟨ad,hA,hb,fun j u hj => hc j u (by rw [List.getElem_take] at hj;exact hj)⟩
end
end Go.Proofs.Ytbdfhmefjfaofaa
