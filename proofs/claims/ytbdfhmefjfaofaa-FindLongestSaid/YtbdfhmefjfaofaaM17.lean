/- Contracts and plain facts: M17. -/
import Derived.Test.YtbdfhmefjfaofaaM14
import Derived.Deep.RegionWith
import Derived.Shelf.Bytes.SlSearch0
import Derived.Shelf.Bytes.SlSmallAll
import Derived.Shelf.Bytes.SlEqualAll
import Derived.Shelf.Bytes.Small
import Derived.Lib.Bytes
set_option linter.unusedVariables false
set_option linter.unusedSimpArgs false
set_option maxRecDepth 100000
set_option maxHeartbeats 32000000
namespace Go.Proofs.Ytbdfhmefjfaofaa
open Go.RowKit
theorem run_equalIn_array {P : Program} (w : World) (d : Nat) (t elem : TypeId) (len n : Nat) (xs ys : Array Value) (ht : P.underlying t = some (.array len elem)) (hn : (sizeOf elem).run P w = .ok n w) (x y : Nat → Value) (r : Nat → Bool)
    (hx : ∀ i,i < len → (part elem xs (i * n)).run P w = .ok (x i) w) (hy : ∀ i,i < len → (part elem ys (i * n)).run P w = .ok (y i) w) (hr : ∀ i,i < len → (Op.equalIn d elem (x i) (y i)).run P w = .ok (r i) w) :
    (Op.equalIn (d + 1) t (.agg xs) (.agg ys)).run P w = .ok ((List.range' 0 len).all r) w:=by
 simp only [Op.equalIn,Sem.run_bind,run_underlying ht,Result.andThen_ok,hn]
 simp only [Std.Legacy.Range.forIn_eq_forIn_range',Std.Legacy.Range.size,Nat.sub_zero,Nat.add_sub_cancel,Nat.div_one]
 have hL : ∀ i ∈ List.range' 0 len,i < len:=fun i hi => by
  rw [List.mem_range'] at hi
  omega
 generalize List.range' 0 len = L at *
 induction L with
 | nil => simp
 | cons i L ih =>
  have hi:=hL i List.mem_cons_self
  have ih':=ih fun j hj => hL j (List.mem_cons_of_mem _ hj)
  simp only [List.forIn_cons,Sem.run_bind,hx i hi,hy i hi,hr i hi,Result.andThen_ok,List.all_cons]
  cases hri : r i
  · simp only [Bool.not_false,if_true,Sem.run_pure,Result.andThen_ok,Bool.false_and]
  · simp only [Bool.not_true,Bool.false_eq_true,if_false,Sem.run_pure,Result.andThen_ok,Bool.true_and]
    exact ih'
theorem run_part_agg {P : Program} (w : World) (t : TypeId) (n : Nat) (d : TypeDesc) (c : Array Value) (o : Nat) (hu : P.underlying t = some d) (hd : d.isRow = true) (hi : (P.info? t).map (·.size) = some n) : (part t c o).run P w = .ok (.agg (c.extract o (o + n))) w:=by
 obtain ⟨i,h1,h2⟩:=Option.map_eq_some_iff.1 hi
 have e : (isAgg t).run P w = .ok true w:=by
  unfold isAgg
  rw [Sem.run_bind,run_underlying hu]
  cases d <;> first | rfl | cases hd
 have hs : (sizeOf t).run P w = .ok n w:=by simp [sizeOf,typeInfo,h1,h2]
 unfold part
 rw [Sem.run_bind,e]
 simp only [Result.andThen_ok,if_true,Sem.run_bind,hs]
 simp
theorem run_part_int (w : World) (c : Array Value) (o : Nat) (x : Int) (h : c[o]? = some (.int .i64 x)) : (part 3 c o).run Try.prog w = .ok (.int .i64 x) w:=by
 unfold part
 have e : (isAgg 3).run Try.prog w = .ok false w:=by
  unfold isAgg
  rw [Sem.run_bind,run_underlying Try.underlying3]
  rfl
 rw [Sem.run_bind,e]
 simp [h]
theorem size_span : (Try.prog.info? 28).map (·.size) = some 2:=by kernel_rfl
theorem under_span : Try.prog.underlying 28 = some (.struct (Try.prog.fieldsOf 28)):=by kernel_rfl
theorem stood_span : Try.prog.stoodInHeld 28 = false:=by kernel_rfl
theorem flds_span : (Try.prog.fieldsOf 28).toList.map fldK = [(true,3,0),(true,3,1)]:=by kernel_rfl
theorem guard_span : Try.prog.eqGuardType Try.prog.depth 28 = false:=by kernel_rfl
theorem run_equalIn_span (d : Nat) (w : World) (x y : Int × Int) : (Op.equalIn (d + 2) 28 (spnV x) (spnV y)).run Try.prog w = .ok (decide (x = y)) w:=by
 unfold spnV
 rw [run_equalIn_struct w (d + 1) _ _ _ under_span stood_span]
 have hf:=flds_span
 generalize (Try.prog.fieldsOf 28).toList = L at hf
 match L,(show L.length = 2 by have:=congrArg List.length hf;simpa using this),hf with
 | [f0,f1],_,hf =>
  simp only [List.map_cons,List.map_nil,List.cons.injEq,and_true] at hf
  obtain ⟨h0,h1⟩:=hf
  have hi : ∀ a b : Int,(Op.equalIn (d + 1) 3 (.int .i64 a) (.int .i64 b)).run Try.prog w = .ok (decide (a = b)) w:=fun a b => by
   rw [← int_beq];exact run_equalIn_int w d _ .i64 .i64 a b Try.underlying3
  rw [eqFields_cons Try.prog (d + 1) _ _ f0 _ _ _ h0 _ _ _ w (run_part_int w _ 0 x.1 rfl) (run_part_int w _ 0 y.1 rfl) (hi _ _)]
  rw [eqFields_cons Try.prog (d + 1) _ _ f1 _ _ _ h1 _ _ _ w (run_part_int w _ 1 x.2 rfl) (run_part_int w _ 1 y.2 rfl) (hi _ _)]
  simp only [Op.eqFields,Sem.run_pure]
  have e : decide (x = y) = (decide (x.1 = y.1) && decide (x.2 = y.2)):=by
   rw [Bool.eq_iff_iff];simp [Prod.ext_iff]
  rw [e]
  cases decide (x.1 = y.1) <;> cases decide (x.2 = y.2) <;> rfl
theorem span_eql (w : World) (x y : Int × Int) : (binOp .eql 28 (spnV x) (spnV y)).run Try.prog w = .ok (.bool (decide (x = y))) w :=
 (run_eql_struct w _ _ _).trans (by have:=run_equalIn_span 9998 w x y;unfold spnV at this;rw [this];rfl)
theorem span_neq (w : World) (x y : Int × Int) : (binOp .neq 28 (spnV x) (spnV y)).run Try.prog w = .ok (.bool (!decide (x = y))) w :=
 (run_neq_struct w _ _ _).trans (by have:=run_equalIn_span 9998 w x y;unfold spnV at this;rw [this];rfl)
theorem span_guard (w : World) (op : BinOp) (p q : Operand) (x y : Int × Int) : (eqGuard op 28 p q (spnV x) (spnV y)).run Try.prog w = .ok () w:=run_eqGuard_agg w op _ p q _ _ guard_span
noncomputable def same10B (a b : Spn) : Bool:=@decide (same10 a b) (Classical.propDecidable _)
theorem same10B_iff (a b : Spn) : same10B a b = true ↔ same10 a b:=by unfold same10B;exact @decide_eq_true_iff _ (Classical.propDecidable _)
theorem hit_part (s : Spn) {i : Nat} (h : i < 10) : (hitC s).extract (i * 2) (i * 2 + 2) = #[.int .i64 (s i).1,.int .i64 (s i).2]:=by
 have : i = 0 ∨ i = 1 ∨ i = 2 ∨ i = 3 ∨ i = 4 ∨ i = 5 ∨ i = 6 ∨ i = 7 ∨ i = 8 ∨ i = 9:=by omega
 rcases this with rfl | rfl | rfl | rfl | rfl | rfl | rfl | rfl | rfl | rfl <;> rfl
theorem all10 (a b : Spn) : (List.range' 0 10).all (fun i => decide (a i = b i)) = same10B a b:=by
 rw [Bool.eq_iff_iff,same10B_iff,List.all_eq_true]
 constructor
 · intro h g hg
   have:=h g (by rw [List.mem_range'];exact ⟨g,hg,by omega⟩)
   simpa using this
 · intro h i hi
   rw [List.mem_range'] at hi
   obtain ⟨j,hj,rfl⟩:=hi
   simpa using h (0 + 1 * j) (by omega)
theorem run_equalIn_ten (d : Nat) (w : World) (a b : Spn) : (Op.equalIn (d + 3) 29 (hitV a) (hitV b)).run Try.prog w = .ok (same10B a b) w:=by
 rw [← all10]
 have hs : (sizeOf 28).run Try.prog w = .ok 2 w:=by
  obtain ⟨i,h1,h2⟩:=Option.map_eq_some_iff.1 size_span
  simp [sizeOf,typeInfo,h1,h2]
 exact run_equalIn_array w (d + 2) _ 28 10 2 (hitC a) (hitC b) Try.underlying29 hs (fun i => spnV (a i)) (fun i => spnV (b i)) _
  (fun i hi => by rw [run_part_agg w _ 2 _ _ _ under_span rfl size_span,hit_part a hi];rfl) (fun i hi => by rw [run_part_agg w _ 2 _ _ _ under_span rfl size_span,hit_part b hi];rfl) (fun i hi => run_equalIn_span d w _ _)
theorem size_ten : (Try.prog.info? 29).map (·.size) = some 20:=by kernel_rfl
theorem size_hit : (Try.prog.info? 31).map (·.size) = some 20:=by kernel_rfl
theorem under_hit : Try.prog.underlying 31 = some (.struct (Try.prog.fieldsOf 31)):=by kernel_rfl
theorem stood_hit : Try.prog.stoodInHeld 31 = false:=by kernel_rfl
theorem flds_hit : (Try.prog.fieldsOf 31).toList.map fldK = [(true,29,0)]:=by kernel_rfl
theorem guard_hit : Try.prog.eqGuardType Try.prog.depth 31 = false:=by kernel_rfl
theorem run_equalIn_hit (d : Nat) (w : World) (a b : Spn) : (Op.equalIn (d + 4) 31 (hitV a) (hitV b)).run Try.prog w = .ok (same10B a b) w:=by
 have h10:=run_equalIn_ten d w a b
 unfold hitV at h10 ⊢
 rw [run_equalIn_struct w (d + 3) _ _ _ under_hit stood_hit]
 have hf:=flds_hit
 generalize (Try.prog.fieldsOf 31).toList = L at hf
 match L,(show L.length = 1 by have:=congrArg List.length hf;simpa using this),hf with
 | [f0],_,hf =>
  simp only [List.map_cons,List.map_nil,List.cons.injEq,and_true] at hf
  have e : ∀ s : Spn,(hitC s).extract 0 (0 + 20) = hitC s:=fun s => by
   have h:=hitC_size s
   rw [Nat.zero_add]
   generalize hitC s = c at *
   rw [← h]
   simp
  rw [eqFields_cons Try.prog (d + 3) _ _ f0 _ _ _ hf _ _ _ w (run_part_agg w _ 20 _ _ _ Try.underlying29 rfl size_ten) (run_part_agg w _ 20 _ _ _ Try.underlying29 rfl size_ten) (by rw [e,e];exact h10)]
  simp only [Op.eqFields,Sem.run_pure]
  cases same10B a b <;> rfl
theorem run_equalIn_hit0 (w : World) (a b : Spn) : (Op.equalIn 10000 31 (.agg (hitC a)) (.agg (hitC b))).run Try.prog w = .ok (same10B a b) w:=run_equalIn_hit 9996 w a b
theorem hit_neq (w : World) (a b : Spn) : (binOp .neq 31 (hitV a) (hitV b)).run Try.prog w = .ok (.bool (!same10B a b)) w:=by
 have h:=run_equalIn_hit0 w a b
 unfold hitV
 generalize hitC a = x at *
 generalize hitC b = y at *
 exact (run_neq_struct w _ _ _).trans (by rw [h];rfl)
theorem hit_guard (w : World) (op : BinOp) (p q : Operand) (a b : Spn) : (eqGuard op 31 p q (hitV a) (hitV b)).run Try.prog w = .ok () w:=run_eqGuard_agg w op _ p q _ _ guard_hit
theorem same10B_self (a : Spn) : same10B a a = true:=(same10B_iff _ _).2 fun _ _ => rfl
theorem isNone_any (x y : Int) (w : World) : Calls Try.prog 61 #[.agg #[.int .i64 x,.int .i64 y]] w fun e w' => e = .returned (.bool (decide (x < 0))) ∧ Below w.heap.size w w':=by
 go_enter Try.func61,Try.ntmps61
 go_wp2
 go_ret
 exact ⟨rfl,(Below.refl _ _).alloc (nlr _) _⟩
theorem held2 {w : World} {g : Nat} {t : TypeId} {x y : Value} (h : Held w g t #[x,y]) : w.cell? ⟨g,0,none⟩ = some x ∧ w.cell? ⟨g,1,none⟩ = some y:=⟨h.at_ rfl,h.at_ rfl⟩
theorem betterGroup_any (x y : Int × Int) (w : World) : Calls Try.prog 59 #[spnV x,spnV y] w fun e w' => e = .returned (.bool (betS x y)) ∧ Below w.heap.size w w':=by
 obtain ⟨x1,x2⟩:=x
 obtain ⟨y1,y2⟩:=y
 unfold betS spnV
 dsimp only
 have hA:=lhi (held_new w 28 #[.int .i64 x1,.int .i64 x2])
 have hB:=lhi (held_new2 w (.cells #[.int .i64 x1,.int .i64 x2] 28) 28 #[.int .i64 y1,.int .i64 y2])
 have hA':=lhi (hA.out.alloc (.cells #[.int .i64 y1,.int .i64 y2] 28))
 have hb0:=lhi (((Below.refl w.heap.size w).alloc (nlr _) (.cells #[.int .i64 x1,.int .i64 x2] 28)).alloc (by simp) (.cells #[.int .i64 y1,.int .i64 y2] 28))
 by_cases h1 : x1 < 0
 · rw [if_pos h1]
   have d1 : decide (x1 < 0) = true:=decide_eq_true h1
   have hN:=lhi (fun w => isNone_any x1 x2 w)
   rw [d1] at hN
   go_enter Try.func59,Try.ntmps59
   go_wp2_with (first
    | (have _h:=hc1;go_at_call 61;refine (hN.out _).mono ?_;rintro e w2 ⟨rfl,hb2⟩;have hc2:=lhi (hb1.out.trans (hb2.mono hb1.out.size)))
    | (go_at_call 61;refine (hN.out _).mono ?_;rintro e w1 ⟨rfl,hb1'⟩;have ⟨a0,a1⟩:=held2 (hA'.out.keep hb1');have hb1:=lhi (hb0.out.trans (hb1'.mono hb0.out.size));have hc1:=hb1;clear hb1'))
   go_ret
   exact ⟨rfl,hc2.out⟩
 · rw [if_neg h1]
   have d1 : decide (x1 < 0) = false:=decide_eq_false h1
   have hN:=lhi (fun w => isNone_any x1 x2 w)
   have hM:=lhi (fun w => isNone_any y1 y2 w)
   rw [d1] at hN
   by_cases h2 : y1 < 0
   · rw [if_pos h2]
     rw [show decide (y1 < 0) = true from decide_eq_true h2] at hM
     go_enter Try.func59,Try.ntmps59
     go_wp2_with (first
      | (have _h:=hc2;go_at_call 61;refine (hN.out _).mono ?_;rintro e w3 ⟨rfl,hb3⟩;have hc3:=lhi (hb2.out.trans (hb3.mono hb2.out.size)))
      | (have _h:=hc1;go_at_call 61;refine (hM.out _).mono ?_;rintro e w2 ⟨rfl,hb2'⟩;have ⟨a0,a1⟩:=held2 (hA1.out.keep hb2');have hb2:=lhi (hb1.out.trans (hb2'.mono hb1.out.size));have hc2:=hb2;clear hb2')
      | (go_at_call 61;refine (hN.out _).mono ?_;rintro e w1 ⟨rfl,hb1'⟩;have hA1:=lhi (hA'.out.keep hb1');have ⟨y0,y1⟩:=held2 (hB.out.keep hb1');have hb1:=lhi (hb0.out.trans (hb1'.mono hb0.out.size));have hc1:=hb1;clear hb1'))
     go_ret
     exact ⟨rfl,hc3.out⟩
   · rw [if_neg h2]
     rw [show decide (y1 < 0) = false from decide_eq_false h2] at hM
     by_cases h3 : x1 = y1
     · subst h3
       rw [if_neg (by simp)]
       go_enter Try.func59,Try.ntmps59
       go_wp2_with (first
        | (have _h:=hc1;go_at_call 61;refine (hM.out _).mono ?_;rintro e w2 ⟨rfl,hb2'⟩;have ⟨a0,a1⟩:=held2 (hA1.out.keep hb2');have ⟨y0,y1⟩:=held2 (hB1.out.keep hb2');have hb2:=lhi (hb1.out.trans (hb2'.mono hb1.out.size));clear hb2')
        | (go_at_call 61;refine (hN.out _).mono ?_;rintro e w1 ⟨rfl,hb1'⟩;have hA1:=lhi (hA'.out.keep hb1');have hB1:=lhi (hB.out.keep hb1');have ⟨y0,y1⟩:=held2 hB1.out;have hb1:=lhi (hb0.out.trans (hb1'.mono hb0.out.size));have hc1:=hb1;clear hb1'))
       go_ret
       exact ⟨rfl,hb2.out⟩
     · rw [if_pos h3]
       have d3 : (x1 != y1) = true:=by rw [bne_iff_ne];exact h3
       go_enter Try.func59,Try.ntmps59
       go_wp2_with (first
        | (have _h:=hc1;go_at_call 61;refine (hM.out _).mono ?_;rintro e w2 ⟨rfl,hb2'⟩;have ⟨a0,a1⟩:=held2 (hA1.out.keep hb2');have ⟨y0,y1⟩:=held2 (hB1.out.keep hb2');have hb2:=lhi (hb1.out.trans (hb2'.mono hb1.out.size));clear hb2')
        | (go_at_call 61;refine (hN.out _).mono ?_;rintro e w1 ⟨rfl,hb1'⟩;have hA1:=lhi (hA'.out.keep hb1');have hB1:=lhi (hB.out.keep hb1');have ⟨y0,y1⟩:=held2 hB1.out;have hb1:=lhi (hb0.out.trans (hb1'.mono hb0.out.size));have hc1:=hb1;clear hb1'))
       go_ret
       exact ⟨rfl,hb2.out⟩
end Go.Proofs.Ytbdfhmefjfaofaa
namespace Go.Proofs
open Go.Shelf
def Try.laysnb116_ren : Go.Shelf.Ren:=⟨fun | 116 => 62 | 115 => 64 | n => n,fun | 37 => 25 | 4 => 4 | 3 => 3 | 9 => 9 | 5 => 5 | n => n,fun | n => n⟩
theorem Try.laysnb116 : Go.Proofs.Lays.nb116 Try.prog Try.laysnb116_ren:={
 mixed:=by kernel_rfl
 f115:=Try.func64.trans (congrArg some (by kernel_rfl))
 f116:=Try.func62.trans (congrArg some (by kernel_rfl))
 t3:=Try.underlying3
 a3:=Try.isAgg3
 z3:=Try.sizeOf3
 v3:=Try.zeroValue3
 t4:=Try.underlying4
 a4:=Try.isAgg4
 z4:=Try.sizeOf4
 v4:=Try.zeroValue4
 t9:=Try.underlying9
 a9:=Try.isAgg9
 z9:=Try.sizeOf9
 v9:=Try.zeroValue9
 t37:=Try.underlying25
 a37:=Try.isAgg25
 z37:=Try.sizeOf25
 v37:=Try.zeroValue25
 t5:=Try.underlying5
 a5:=Try.isAgg5
 z5:=Try.sizeOf5
 v5:=Try.zeroValue5 }
theorem Try.bytes_HasPrefix_all (p1 p2 : Option Addr) (n c m d : Nat) (xs ys : List Int) (w : World) (hx : xs.length = n) (hy : ys.length = m) (hnc : n ≤ c) (h1 : Lib.BytesIn w p1 n xs) (h2 : Lib.BytesIn w p2 m ys) :
    Calls Try.prog 62 #[.slice p1 n c,.slice p2 m d] w fun e w' => e = .returned (.bool (Lib.hasPrefix (Lib.bytesOf xs) (Lib.bytesOf ys))) ∧ w' = w:=Any.bytes_HasPrefix_all Try.laysnb116 p1 p2 n c m d xs ys w hx hy hnc h1 h2
end Go.Proofs
namespace Go.Proofs.Ytbdfhmefjfaofaa
open Go.RowKit
def ints (l : List UInt8) : List Int:=l.map fun c => (c.toNat : Int)
theorem ints_len (l : List UInt8) : (ints l).length = l.length:=by simp [ints]
theorem ints_bytes (l : List UInt8) : Lib.bytesOf (ints l) = l:=by
 unfold Lib.bytesOf ints;rw [List.map_map]
 have : ((fun n : Int => UInt8.ofNat n.toNat) ∘ fun c : UInt8 => (c.toNat : Int)) = id:=by funext c;simp
 rw [this,List.map_id]
theorem Byt.cells {w : World} {B : Nat} {a : Addr} {l : List UInt8} (h : Byt w B (some a) l) : ∀ i,i < l.length → w.cell? (a.add i) = some (.int .u8 ((ints l).getD i 0)):=by
 intro i hi
 obtain ⟨ad,hA,_,hc⟩:=h.at_ hi
 injection hA with hA
 subst hA
 rw [hc]
 simp [ints,List.getD,hi]
theorem Byt.none_nil {w : World} {B : Nat} {l : List UInt8} (h : Byt w B none l) : l = []:=by
 cases l with
 | nil => rfl
 | cons x r => obtain ⟨ad,h,_⟩:=h.at_ (k:=0) (by simp);cases h
end Go.Proofs.Ytbdfhmefjfaofaa
