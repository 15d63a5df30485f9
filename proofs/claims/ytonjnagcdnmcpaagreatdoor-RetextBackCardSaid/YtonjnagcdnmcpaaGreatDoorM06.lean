/- Contracts and plain facts: M06. -/
import Derived.Test.YtonjnagcdnmcpaaGreatDoorM05
set_option linter.unusedVariables false
set_option linter.unusedSimpArgs false
set_option maxRecDepth 100000
set_option maxHeartbeats 32000000
namespace Go.Proofs.YtonjnagcdnmcpaaGreatDoor
open Go.RowKit
theorem every_u8 (p : UInt8 → Bool) (h : ((List.range 256).all fun n => p (UInt8.ofNat n)) = true) (c : UInt8) : p c = true:=by
 have:=(List.all_eq_true.1 h) c.toNat (List.mem_range.2 c.toNat_lt)
 simpa using this
theorem special_at (c : UInt8) : decide (0 ≤ Lib.indexByte [93,94,45,91,92] c) = decide (c = 93 ∨ c = 94 ∨ c = 45 ∨ c = 91 ∨ c = 92):=by
 have:=every_u8 (fun c => decide (0 ≤ Lib.indexByte [93,94,45,91,92] c) == decide (c = 93 ∨ c = 94 ∨ c = 45 ∨ c = 91 ∨ c = 92)) (by decide +kernel) c
 simpa using this
theorem conv_one (w : World) (c : UInt8) : (convert 22 9 (.slice (some ⟨w.heap.size,0,none⟩) 1 1)).run Tryz.prog (w.alloc (.cells #[.int .u8 (c.toNat : Int)] 5)) = .ok (.string ⟨#[c]⟩) (w.alloc (.cells #[.int .u8 (c.toNat : Int)] 5)) :=
 convB (byt_new w [c] 5 (0,0)) rfl
theorem contains_at (c : UInt8) (b : Bool) (hb : decide (c = 93 ∨ c = 94 ∨ c = 45 ∨ c = 91 ∨ c = 92) = b) (w : World) :
    Calls Tryz.prog 84 #[.string ⟨#[93,94,45,91,92]⟩,.string ⟨#[c]⟩] w fun e w' => e = .returned (.bool b) ∧ w = w':=by
 refine (Tryz.strings_Contains_one ⟨#[93,94,45,91,92]⟩ c w).mono fun e w' ⟨he,hw⟩ => ⟨?_,hw.symm⟩
 rw [he,← hb,← special_at]
theorem ret_text {s : ByteArray} {l : List UInt8} (h : s.data.toList = l) : Ending.returned (.string s) = .returned (.string ⟨l.toArray⟩):=by
 rw [show s = ⟨l.toArray⟩ from bytes_ext (by simpa using h)]
theorem endText_any (c : UInt8) (w : World) :
    Calls Tryz.prog 135 #[.int .u8 (c.toNat : Int)] w fun e w' => e = .returned (.string ⟨(endT c).toArray⟩) ∧ Below w.heap.size w w':=by
 have hcv:=conv_one w c
 have hC:=fun b hb => contains_at c b hb
 unfold endT
 by_cases h10 : c = 10
 · have g : (((c.toNat : Nat) : Int) == 10) = true:=by rw [h10];rfl
   rw [if_pos h10]
   clear hC h10
   go_enter Tryz.func135,Tryz.ntmps135
   go_wp2
   go_ret
   exact ⟨rfl,(Below.refl _ _).alloc (nlr _) _⟩
 · have g : (((c.toNat : Nat) : Int) == 10) = false:=by
     simp only [bef,ne_eq]
     intro e
     exact h10 (UInt8.toNat_inj.1 (by have : c.toNat = 10:=by omega
                                      rw [this];rfl))
   rw [if_neg h10]
   by_cases hs : c = 93 ∨ c = 94 ∨ c = 45 ∨ c = 91 ∨ c = 92
   · rw [if_pos hs]
     have hK:=lhi (hC true (decide_eq_true hs))
     clear hC hs h10
     go_enter Tryz.func135,Tryz.ntmps135
     go_wp2_with (go_at_call 84;refine (hK.out _).mono ?_;rintro e w' ⟨rfl,rfl⟩)
     go_ret
     exact ⟨ret_text (by simp),(Below.refl _ _).alloc (nlr _) _⟩
   · rw [if_neg hs]
     have hK:=lhi (hC false (decide_eq_false hs))
     clear hC hs h10
     go_enter Tryz.func135,Tryz.ntmps135
     go_wp2_with (go_at_call 84;refine (hK.out _).mono ?_;rintro e w' ⟨rfl,rfl⟩)
     go_ret
     exact ⟨rfl,(Below.refl _ _).alloc (nlr _) _⟩
theorem row7_any (a b : UInt8) (w : World) :
    Calls Tryz.prog 124 #[.int .u8 (a.toNat : Int),.int .u8 (b.toNat : Int)] w fun e w' => e = .returned (.string ⟨(rowT a b).toArray⟩) ∧ Below w.heap.size w w':=by
 have hA:=lhi (endText_any a)
 have hB:=lhi (endText_any b)
 unfold rowT
 by_cases h : a = b
 · subst h
   rw [if_pos rfl]
   go_enter Tryz.func124,Tryz.ntmps124
   go_wp2_with (go_at_call 135;refine (hA.out _).mono ?_;rintro e w1 ⟨rfl,hb1⟩)
   go_ret
   exact ⟨rfl,hb1⟩
 · have g : (((a.toNat : Nat) : Int) == ((b.toNat : Nat) : Int)) = false:=by
     simp only [bef,ne_eq]
     intro e
     exact h (UInt8.toNat_inj.1 (by omega))
   rw [if_neg h]
   clear h
   have hl:=endT_len a
   have hl2:=endT_len b
   generalize endT a = ta at *
   generalize endT b = tb at *
   go_enter Tryz.func124,Tryz.ntmps124
   go_wp2_with (first
    | (go_at_call 135;with_reducible refine (hA.out _).mono ?_;rintro e w1 ⟨rfl,hb1⟩)
    | (go_at_call 135;with_reducible refine (hB.out _).mono ?_;rintro e w2 ⟨rfl,hb2⟩))
   go_ret
   exact ⟨ret_text (by simp),hb1.trans (hb2.mono hb1.size)⟩
def Src (w : World) (A : Option Addr) (news : List Value) : Prop:=∀ j u,news[j]? = some u → ∃ ad,A = some ad ∧ w.cell? (ad.add j) = some u
theorem Src.nil {w : World} {news : List Value} (h : Src w none news) : news = []:=by
 cases news with
 | nil => rfl
 | cons x r => obtain ⟨ad,h,_⟩:=h 0 x rfl;cases h
theorem src_new (w : World) (xs : List Value) (t : TypeId) : Src (w.alloc (.cells xs.toArray t)) (some ⟨w.heap.size,0,none⟩) xs:=fun j u hj => ⟨_,rfl,new_cells w xs t j u hj⟩
section
variable {P : Program} {w : World}
theorem run_append_none (base : Nat) (t ty e : TypeId) (i : TypeInfo) (size : Nat) (ht : P.underlying t = some (.slice e)) (hi : P.info? e = some i)
    (v : Value) (n : Nat) (xs : List Value) (hown : w.ownsRow base e size v n xs) (c : Nat) : (Builtin.append_ #[t,t] ty #[v,.slice none 0 c]).run P w = .ok v w:=by
 obtain ⟨_,⟨rfl,rfl⟩ | ⟨g,cap,cur,rfl,_,_,hnc,_⟩⟩:=hown
 · simp [Builtin.append_,run_underlying ht,sizeOf,typeInfo,hi,Builtin.lenOf,Builtin.firstCells]
 · simp [Builtin.append_,run_underlying ht,sizeOf,typeInfo,hi,Builtin.lenOf,Builtin.firstCells,hnc,storeCells]
theorem run_append_at (base : Nat) (t ty e : TypeId) (i : TypeInfo) (z : Value) (size bytes : Nat) (ht : P.underlying t = some (.slice e)) (hi : P.info? e = some i) (hz : i.zero = some z)
    (hi1 : i.size = size) (hib : i.bytes = bytes) (hz1 : z.cells.size = size) (hsz : 0 < size) (v : Value) (n : Nat) (xs : List Value) (hown : w.ownsRow base e size v n xs)
    (A : Option Addr) (m c : Nat) (news : List Value) (hl : news.length = m * size) (hv : Src w A news) (h1 : ∀ u ∈ news,u.oneCell' = true)
    (hlen : n + m ≤ maxLen) (hbytes : (n + m) * bytes ≤ 140737488355328) (hbase : base ≤ w.heap.size) :
    ∃ v' w',(Builtin.append_ #[t,t] ty #[v,.slice A m c]).run P w = .ok v' w' ∧ w'.ownsRow base e size v' (n + m) (xs ++ news) ∧ w.grownBy w' v.ownBlock ∧
     (∀ k,v'.ownBlock = some k → v.ownBlock = some k ∨ w.heap.size ≤ k):=by
 cases A with
 | none =>
  obtain rfl:=hv.nil
  have hm : m = 0:=by
   rcases Nat.eq_zero_or_pos m with h | h
   · exact h
   · have:=Nat.mul_pos h hsz;rw [← hl] at this;simp at this
  subst hm
  exact ⟨v,w,run_append_none base t ty e i size ht hi v n xs hown c,by simpa using hown,World.grownBy.refl w _,fun _ h => .inl h⟩
 | some a =>
  have hnews : ∀ j u,news[j]? = some u → w.cell? (a.add j) = some u:=fun j u hj => by
   obtain ⟨ad,h,hc⟩:=hv j u hj
   injection h with h
   subst h
   exact hc
  obtain ⟨v',w',hrun,h2,h3,h4⟩:=run_append_own (P:=P) w base t ty e i z size bytes ht hi hz hi1 hib hz1 hsz v n xs hown a m c news hl hnews h1 hlen hbytes hbase
  refine ⟨v',w',hrun,h2,h3,fun k hk => ?_⟩
  subst hi1
  subst hib
  have h63 : n + m ≤ 9223372036854775807:=by simp only [maxLen] at hlen;omega
  rcases hown.2 with ⟨rfl,rfl⟩ | ⟨g,cap,cur,rfl,hbg,hg,hnc,hcm,hcs,htake⟩
  · by_cases hm : m = 0
    · rw [h4.2 ⟨rfl,hm⟩] at hk;cases hk
    · have hr:=Go.run_append_nil (P:=P) w t ty e i z ht hi hz a m c news hl hnews (by omega) (by omega) (by have hb:=hbytes;simp only [Nat.zero_add] at hb;omega)
      rw [hr] at hrun
      injection hrun with hrun _
      rw [← hrun] at hk
      injection hk with hk
      exact .inr (Nat.le_of_eq hk)
  · by_cases hroom : n + m ≤ cap
    · have hfit : n * i.size + news.length ≤ cur.size:=by rw [hl,hcs,← Nat.add_mul];exact Nat.mul_le_mul_right _ hroom
      have hr:=run_append_room (P:=P) w t ty e i ht hi g n cap cur hg a m c news hl hnews h1 hroom hfit
      rw [hr] at hrun
      injection hrun with hrun _
      rw [← hrun] at hk
      exact .inl hk
    · have hr:=run_append_grow (P:=P) w t ty e i z ht hi hz ⟨g,0,none⟩ n cap xs hown.1 (hown.cells (g:=g) rfl) a m c news hl hnews (by omega) (by omega) (growslice_fits (by omega) hbytes)
      rw [hr] at hrun
      injection hrun with hrun _
      rw [← hrun] at hk
      injection hk with hk
      exact .inr (Nat.le_of_eq hk)
theorem wpList_append_at {ops : Array Oper} {rest : List Oper} {o : Oper} {a : Act} {Q : Exit → Act → World → Prop} (hg : o.guard = none) (s x : Operand) (t : TypeId)
    (ho : o.op = .call { callee:=.builtin .append,args:=#[s,x],argTypes:=#[t,t] })
    (base : Nat) (e : TypeId) (i : TypeInfo) (z : Value) (size bytes : Nat) (ht : P.underlying t = some (.slice e)) (hi : P.info? e = some i) (hz : i.zero = some z)
    (hi1 : i.size = size) (hib : i.bytes = bytes) (hz1 : z.cells.size = size) (hsz : 0 < size) (v : Value) (n : Nat) (xs : List Value) (hs : a.eval s = v) (hown : w.ownsRow base e size v n xs)
    (A : Option Addr) (m c : Nat) (news : List Value) (hx : a.eval x = .slice A m c) (hl : news.length = m * size) (hv : Src w A news) (h1 : ∀ u ∈ news,u.oneCell' = true)
    (hlen : n + m ≤ maxLen) (hbytes : (n + m) * bytes ≤ 140737488355328) (hbase : base ≤ w.heap.size)
    (h : ∀ v' w',w'.ownsRow base e size v' (n + m) (xs ++ news) → w.grownBy w' v.ownBlock → (∀ k,v'.ownBlock = some k → v.ownBlock = some k ∨ w.heap.size ≤ k) → wpList P ops Q rest (a.put o.dst v') w') : wpList P ops Q (o :: rest) a w:=by
 refine wpList_plain hg fun K hK => ?_
 obtain ⟨v',w',hrun,h2,h3,h4⟩:=run_append_at (P:=P) (w:=w) base t o.type e i z size bytes ht hi hz hi1 hib hz1 hsz v n xs hown A m c news hl hv h1 hlen hbytes hbase
 unfold Oper.wp execOp
 simp only [ho,resolve,invoke,builtin,Sem.run_bind,Sem.run_pure,Result.andThen_ok,List.map_toArray,List.map_cons,List.map_nil,hs,hx,hrun]
 exact hK _ _ (h v' w' h2 h3 h4)
end
theorem elems_in {f : Nat → Bool} {k : Nat} (h : f k = true) : elems f (k + 1) = elems f k ++ [UInt8.ofNat k]:=by simp [elems,h]
theorem elems_out {f : Nat → Bool} {k : Nat} (h : f k = false) : elems f (k + 1) = elems f k:=by simp [elems,h]
theorem elems_le (f : Nat → Bool) (k : Nat) : (elems f k).length ≤ k:=by rw [elems_len];exact cnt_le f k
theorem ownsRow_less {w : World} {b b' : Nat} {e : TypeId} {size n : Nat} {v : Value} {xs : List Value} (h : w.ownsRow b e size v n xs) (hb : b' ≤ b) : w.ownsRow b' e size v n xs:=by
 refine ⟨h.1,?_⟩
 rcases h.2 with hn | ⟨g,cap,cur,hv,hg,rest⟩
 · exact .inl hn
 · exact .inr ⟨g,cap,cur,hv,Nat.le_trans hb hg,rest⟩
theorem ownsRow_from {w : World} {b : Nat} {e : TypeId} {size n : Nat} {v : Value} {xs : List Value} (h : w.ownsRow b e size v n xs) : ∀ k,v.ownBlock = some k → b ≤ k:=by
 rcases h.2 with ⟨rfl,_⟩ | ⟨g,cap,cur,rfl,hg,_⟩
 · simp [Value.ownBlock]
 · intro k hk
   simp only [Value.ownBlock,Option.some.injEq] at hk
   omega
theorem SetAt.grown {w w' : World} {g : Nat} {f : Nat → Bool} {row : Option Nat} (h : SetAt w g f) (hg : w.grownBy w' row) (hr : row ≠ some g) : SetAt w' g f:=by
 have hl:=h.lt
 unfold SetAt at h ⊢
 rw [hg.block g hl (fun e => hr e.symm)];exact h
theorem byteInfo : (Tryz.prog.info? 5).map (fun i => (i.zero,i.size,i.bytes)) = some (some (.int .u8 0),1,1):=by kernel_rfl
def RelBy (w : World) (f : Nat → Bool) (v i : Value) (wr : World) : Prop :=
 ∃ k : Nat,k ≤ 256 ∧ i = .int .i64 (k : Nat) ∧ SetAt wr w.heap.size f ∧ wr.ownsRow (w.heap.size + 1) 5 1 v (elems f k).length (bv (elems f k)) ∧ Below w.heap.size w wr
theorem RelBy.mk {w : World} {f : Nat → Bool} {v i : Value} {wr : World} (h : ∃ k : Nat,k ≤ 256 ∧ i = .int .i64 (k : Nat) ∧ SetAt wr w.heap.size f ∧ wr.ownsRow (w.heap.size + 1) 5 1 v (elems f k).length (bv (elems f k)) ∧ Below w.heap.size w wr) : RelBy w f v i wr:=h
theorem strInfo : (Tryz.prog.info? 9).map (fun i => (i.zero,i.size,i.bytes)) = some (some (.string ByteArray.empty),1,16):=by kernel_rfl
def RelRw7 (W : World) (f : Nat → Bool) (vc v : Value) (wr : World) : Prop :=
 ∃ (c : Nat) (ss : List ByteArray),vc = .int .i64 (c : Int) ∧ c ≤ 256 ∧ ss.length ≤ c ∧ ss.map (·.data.toList) ++ rowsL f c = rowsL f 0 ∧ SetAt wr W.heap.size f ∧ wr.ownsRow (W.heap.size + 1) 9 1 v ss.length (ss.map Value.string) ∧ Below W.heap.size W wr
theorem RelRw7.mk {W : World} {f : Nat → Bool} {vc v : Value} {wr : World} (h : ∃ (c : Nat) (ss : List ByteArray),vc = .int .i64 (c : Int) ∧ c ≤ 256 ∧ ss.length ≤ c ∧ ss.map (·.data.toList) ++ rowsL f c = rowsL f 0 ∧ SetAt wr W.heap.size f ∧ wr.ownsRow (W.heap.size + 1) 9 1 v ss.length (ss.map Value.string) ∧ Below W.heap.size W wr) : RelRw7 W f vc v wr:=h
def RelRun (W : World) (f : Nat → Bool) (c : Nat) (ss : List ByteArray) (v vc : Value) (wr : World) : Prop :=
 ∃ d : Nat,vc = .int .i64 (d : Int) ∧ c ≤ d ∧ d ≤ 255 ∧ runE f d = runE f c ∧ SetAt wr W.heap.size f ∧ wr.ownsRow (W.heap.size + 1) 9 1 v ss.length (ss.map Value.string) ∧ Below W.heap.size W wr
theorem RelRun.mk {W : World} {f : Nat → Bool} {c : Nat} {ss : List ByteArray} {v vc : Value} {wr : World} (h : ∃ d : Nat,vc = .int .i64 (d : Int) ∧ c ≤ d ∧ d ≤ 255 ∧ runE f d = runE f c ∧ SetAt wr W.heap.size f ∧ wr.ownsRow (W.heap.size + 1) 9 1 v ss.length (ss.map Value.string) ∧ Below W.heap.size W wr) : RelRun W f c ss v vc wr:=h
theorem row7_at (c d : Nat) (hc : c < 256) (hd : d < 256) (w : World) :
    Calls Tryz.prog 124 #[.int .u8 (c : Int),.int .u8 (d : Int)] w fun e w' => e = .returned (.string ⟨(rowT (UInt8.ofNat c) (UInt8.ofNat d)).toArray⟩) ∧ Below w.heap.size w w':=by
 have:=row7_any (UInt8.ofNat c) (UInt8.ofNat d) w
 rw [ofNat_toNat hc,ofNat_toNat hd] at this
 exact this
theorem rows_any (f : Nat → Bool) (w : World) :
    Calls Tryz.prog 104 #[.agg (setC f)] w fun e w' => ∃ v ss,e = .returned v ∧ (ss : List ByteArray).map (·.data.toList) = rowsL f 0 ∧ ss.length ≤ 256 ∧ w'.ownsRow w.heap.size 9 1 v ss.length (ss.map Value.string) ∧ Below w.heap.size w w':=by
 obtain ⟨i0,hi,hz0,hi1,hi2⟩ : ∃ i0,Tryz.prog.info? 9 = some i0 ∧ i0.zero = some (.string ByteArray.empty) ∧ i0.size = 1 ∧ i0.bytes = 16:=by
  obtain ⟨i0,h1,h2⟩:=Option.map_eq_some_iff.1 strInfo
  simp at h2
  exact ⟨i0,h1,h2.1,h2.2.1,h2.2.2⟩
 have hI1:=lhi hi1
 have hI2:=lhi hi2
 clear hi1 hi2
 go_enter Tryz.func104,Tryz.ntmps104
 go_wp2
 go_loopw [4,3] (RelRw7 w f) (fun v _ _ => 256 - (intOf v).toNat)
 case atStart => exact RelRw7.mk ⟨0,[],rfl,by omega,by simp,rfl,set_new w f,World.ownsRow_nil _ _ _ _,(Below.refl _ _).alloc (nlr _) _⟩
 case round =>
  rename World => w1
  obtain ⟨c,ss,rfl,hc,hsc,hcat,hs,hown,hb⟩:=hrel
  replace hcat:=lhi hcat
  obtain ⟨Av,cv,rfl,-,-,-,-⟩:=own_vals hown
  have hs':=lhi hs
  have hb':=lhi hb
  have hown':=lhi hown
  clear hs hb hown
  by_cases hlt : c < 256
  · have k3 : IntKind.u8.wrap (c : Int) = (c : Int):=IntWalk.u8_in _ (by omega)
    cases hf : f c with
    | false =>
     have hfk:=lhi hf
     have hrl:=lhi (rowsL_out hlt hf)
     clear hf
     go_wp2_with (first
      | (refine wpList_load_row rfl 41 (.tmp 1) rfl w.heap.size rfl 41 _ (0,0) _ hs'.out Tryz.underlying41 rfl (set_size _) ?_)
      | (go_at_call 101;refine (has_any f c _ hlt).mono ?_;rintro e w4 ⟨rfl,hbh⟩;rw [hfk.out];have hs4:=lhi (hs'.out.below hbh hs'.out.lt);have hb4:=lhi (hb'.out.trans (hbh.mono hb'.out.size));have hown4:=lhi (own_below hown'.out hbh)))
     go_roundw
     case rel => exact RelRw7.mk ⟨c + 1,ss,by go_num,by omega,by omega,by rw [← hrl.out];exact hcat.out,hs4.out,hown4.out,hb4.out⟩
     case measure => simp [intOf];omega
    | true =>
     have hfk:=lhi hf
     have hrl:=lhi (rowsL_in hlt hf)
     clear hf
     go_wp2_with (first
      | (refine wpList_load_row rfl 41 (.tmp 1) rfl w.heap.size rfl 41 _ (0,0) _ hs'.out Tryz.underlying41 rfl (set_size _) ?_)
      | (go_at_call 101;refine (has_any f c _ hlt).mono ?_;rintro e w4 ⟨rfl,hbh⟩;rw [hfk.out];have hs4:=lhi (hs'.out.below hbh hs'.out.lt);have hb4:=lhi (hb'.out.trans (hbh.mono hb'.out.size));have hown4:=lhi (own_below hown'.out hbh)))
     go_loopw [4] (RelRun w f c ss (.slice Av ss.length cv)) (fun v _ => 256 - (intOf v).toNat)
     case atStart => exact RelRun.mk ⟨c,rfl,nlr _,by omega,rfl,hs4.out,hown4.out,hb4.out⟩
     case round =>
      rename World => w5
      clear hs4 hb4 hown4 hs' hb' hown' hfk
      obtain ⟨d,rfl,hcd,hd,hrun,hs,hown,hb⟩:=hrel
      have hs':=lhi hs
      have hb':=lhi hb
      have hown':=lhi hown
      have d0:=hs.cell 0 (by decide)
      have d1:=hs.cell 1 (by decide)
      have d2:=hs.cell 2 (by decide)
      have d3:=hs.cell 3 (by decide)
      clear hs hb hown
      have k5 : IntKind.u8.wrap (d : Int) = (d : Int):=IntWalk.u8_in _ (by omega)
      by_cases hd2 : d < 255
      · have k4 : IntKind.u8.wrap ((d : Int) + 1) = (d : Int) + 1:=IntWalk.u8_in _ (by omega)
        cases hf : f (d + 1) with
        | true =>
         have hfk:=lhi hf
         have hrn:=lhi ((runE_on hd2 hf).symm.trans hrun)
         clear hf hrun
         go_wp2_with (first
          | (go_at_call 101;refine (has_any f (d + 1) _ (by omega)).mono ?_;rintro e w5b ⟨rfl,hbh⟩;rw [hfk.out];have hs4:=lhi (hs'.out.below hbh hs'.out.lt);have hb4:=lhi (hb'.out.trans (hbh.mono hb'.out.size));have hown4:=lhi (own_below hown'.out hbh)))
         go_roundw
         case rel => exact RelRun.mk ⟨d + 1,by go_num,by omega,by omega,hrn.out,hs4.out,hown4.out,hb4.out⟩
         case measure => simp [intOf];omega
        | false =>
         have hfk:=lhi hf
         have hrn : runE f c = d:=hrun.symm.trans (runE_off (by rw [hf];simp))
         rw [hrn] at hrl
         replace hrn:=lhi hrn
         have hRow:=lhi (row7_at c d hlt (by omega))
         clear hf hrun
         go_wp2_with (first
          | (go_at_call 101;refine (has_any f (d + 1) _ (by omega)).mono ?_;rintro e w5b ⟨rfl,hbh⟩;rw [hfk.out];have hs4:=lhi (hs'.out.below hbh hs'.out.lt);have hb4:=lhi (hb'.out.trans (hbh.mono hb'.out.size));have hown4:=lhi (own_below hown'.out hbh))
          | (go_at_call 124;refine (hRow.out _).mono ?_;rintro e w6 ⟨rfl,hb6⟩;have hs7:=lhi (hs4.out.below hb6 hs4.out.lt);have hb7:=lhi (hb4.out.trans (hb6.mono hb4.out.size));have hown7:=lhi (own_below hown4.out hb6))
          | (at_builtin;refine wpList_append_at rfl _ _ 75 rfl (w.heap.size + 1) 9 i0 (.string ByteArray.empty) 1 16 Tryz.underlying75 hi hz0 hI1.out hI2.out rfl (by decide) (.slice Av ss.length cv) ss.length (ss.map Value.string) rfl (hown7.out.alloc _) (some ⟨w6.heap.size,0,none⟩) 1 1 [.string ⟨(rowT (UInt8.ofNat c) (UInt8.ofNat d)).toArray⟩] rfl rfl (src_new w6 [.string ⟨(rowT (UInt8.ofNat c) (UInt8.ofNat d)).toArray⟩] 9) (by simp [Value.oneCell']) (by unfold maxLen;omega) (by omega) (by have:=hs7.out.lt;rw [sizeA'];omega) ?_;intro v8 w8 hown8 hg8 _;have hb8:=below_append (hb7.out.alloc hb7.out.size (.cells #[.string ⟨(rowT (UInt8.ofNat c) (UInt8.ofNat d)).toArray⟩] 9)) (ownsRow_less (hown7.out.alloc _) (Nat.le_succ _)) (by have:=hb7.out.size;rw [sizeA'];omega) hg8;have hs8:=(hs7.out.alloc (.cells #[.string ⟨(rowT (UInt8.ofNat c) (UInt8.ofNat d)).toArray⟩] 9)).grown hg8 (fun e => by have:=ownsRow_from hown7.out _ e;omega)))
         go_roundw
         case rel => exact RelRw7.mk ⟨d + 1,ss ++ [⟨(rowT (UInt8.ofNat c) (UInt8.ofNat d)).toArray⟩],by go_num,by omega,by simp;omega,by rw [← hcat.out,hrl.out];simp,hs8,by rw [lla,List.map_append];exact hown8,hb8⟩
         case measure => simp [intOf];omega
      · obtain rfl : d = 255:=by omega
        have hrn : runE f c = 255:=hrun.symm.trans (runE_off (by omega))
        rw [hrn] at hrl
        replace hrn:=lhi hrn
        have hRow:=lhi (row7_at c 255 hlt (by omega))
        have hs4:=hs'
        have hb4:=hb'
        have hown4:=hown'
        clear hrun
        go_wp2_with (first
         | fail
         | (go_at_call 124;refine (hRow.out _).mono ?_;rintro e w6 ⟨rfl,hb6⟩;have hs7:=lhi (hs4.out.below hb6 hs4.out.lt);have hb7:=lhi (hb4.out.trans (hb6.mono hb4.out.size));have hown7:=lhi (own_below hown4.out hb6))
         | (at_builtin;refine wpList_append_at rfl _ _ 75 rfl (w.heap.size + 1) 9 i0 (.string ByteArray.empty) 1 16 Tryz.underlying75 hi hz0 hI1.out hI2.out rfl (by decide) (.slice Av ss.length cv) ss.length (ss.map Value.string) rfl (hown7.out.alloc _) (some ⟨w6.heap.size,0,none⟩) 1 1 [.string ⟨(rowT (UInt8.ofNat c) (UInt8.ofNat 255)).toArray⟩] rfl rfl (src_new w6 [.string ⟨(rowT (UInt8.ofNat c) (UInt8.ofNat 255)).toArray⟩] 9) (by simp [Value.oneCell']) (by unfold maxLen;omega) (by omega) (by have:=hs7.out.lt;rw [sizeA'];omega) ?_;intro v8 w8 hown8 hg8 _;have hb8:=below_append (hb7.out.alloc hb7.out.size (.cells #[.string ⟨(rowT (UInt8.ofNat c) (UInt8.ofNat 255)).toArray⟩] 9)) (ownsRow_less (hown7.out.alloc _) (Nat.le_succ _)) (by have:=hb7.out.size;rw [sizeA'];omega) hg8;have hs8:=(hs7.out.alloc (.cells #[.string ⟨(rowT (UInt8.ofNat c) (UInt8.ofNat 255)).toArray⟩] 9)).grown hg8 (fun e => by have:=ownsRow_from hown7.out _ e;omega)))
        go_roundw
        case rel => exact RelRw7.mk ⟨256,ss ++ [⟨(rowT (UInt8.ofNat c) (UInt8.ofNat 255)).toArray⟩],by go_num,by omega,by simp;omega,by rw [← hcat.out,hrl.out];simp,hs8,by rw [lla,List.map_append];exact hown8,hb8⟩
        case measure => simp [intOf];omega
  · obtain rfl : c = 256:=by omega
    have hfin:=hcat.out
    rw [rowsL_end (by omega),List.append_nil] at hfin
    replace hfin:=lhi hfin
    go_wp2
    go_ret
    exact ⟨_,ss,rfl,hfin.out,hsc,ownsRow_less hown'.out (Nat.le_succ _),hb'.out⟩
theorem namedR_end {l : List UInt8} (h : bg [91,58] l = true) : endA (piece l) = 0 ∧ endB (piece l) = 0 ∧ ((∃ f n,namedR l = .ok (f,n) ∧ endC (piece l) = 3) ∨ ∃ e : Nat,namedR l = .error e ∧ endC (piece l) = (e : Int) ∧ ((e : Int) != 0) = true):=by
 unfold piece namedR
 rw [if_pos h]
 cases hp : clsP l with
 | bad e =>
  refine ⟨rfl,rfl,Or.inr ⟨e,rfl,rfl,?_⟩⟩
  have:=clsP_err hp
  simp;omega
 | cls nm n =>
  refine ⟨rfl,rfl,?_⟩
  cases hj : joins (l.drop n) with
  | true => exact Or.inr ⟨3,by simp [hj],rfl,rfl⟩
  | false => exact Or.inl ⟨clsF nm,n,by simp [hj],rfl⟩
 | one c n => exact absurd hp clsP_one
theorem secondEnd_any {A : Option Addr} {n c : Nat} {l : List UInt8} {w : World} (h : Inp w A n c l) :
    Calls Tryz.prog 172 #[.slice A n c] w fun e w' => e = .returned (.tuple #[.int .u8 (endA (piece l)),.int .i64 (endB (piece l)),.int .i64 (endC (piece l))]) ∧ Below w.heap.size w w':=by
 have h':=lhi h
 cases h1 : bg [91,58] l with
 | false =>
  have hp : piece l = endP l:=by unfold piece;rw [h1];rfl
  rw [hp]
  have hE:=lhi (fun w1 (h : Inp w1 A n c l) => end_any h)
  generalize endA (endP l) = a at *
  generalize endB (endP l) = b at *
  generalize endC (endP l) = d at *
  replace h1:=lhi h1
  clear h hp
  go_enter Tryz.func172,Tryz.ntmps172
  go_wp2_with (first
   | (go_at_call 146;refine (begins_is h'.out ⟨#[91,58]⟩ false h1.out).mono ?_;rintro e w1 ⟨rfl,hb1⟩)
   | (go_at_call 170;refine (hE.out _ (h'.out.grow hb1)).mono ?_;rintro e w2 ⟨rfl,hb2⟩))
  go_ret3
  exact ⟨rfl,hb1.trans (hb2.mono hb1.size)⟩
 | true =>
  obtain ⟨ea,eb,ec⟩:=namedR_end h1
  have hE:=fun w1 (h : Inp w1 A n c l) => named7_any h h1
  rw [ea,eb]
  rcases ec with ⟨f,m,hr,ec⟩ | ⟨e,hr,ec,hne⟩
  · rw [hr] at hE
    rw [ec]
    replace hE:=lhi (show ∀ w1,Inp w1 A n c l → Calls Tryz.prog 169 #[.slice A n c] w1 fun e w' => e = .returned (.tuple #[.agg (setC f),.int .i64 (m : Int),.int .i64 0]) ∧ Below w1.heap.size w1 w' from hE)
    replace h1:=lhi h1
    clear h hr ea eb ec
    go_enter Tryz.func172,Tryz.ntmps172
    go_wp2_with (first
     | (go_at_call 146;refine (begins_is h'.out ⟨#[91,58]⟩ true h1.out).mono ?_;rintro e w1 ⟨rfl,hb1⟩)
     | (go_at_call 169;refine (hE.out _ (h'.out.grow hb1)).mono ?_;rintro e w2 ⟨rfl,hb2⟩))
    go_ret3
    exact ⟨rfl,hb1.trans (hb2.mono hb1.size)⟩
  · rw [hr] at hE
    rw [ec]
    replace hE:=lhi (show ∀ w1,Inp w1 A n c l → Calls Tryz.prog 169 #[.slice A n c] w1 fun e' w' => e' = .returned (.tuple #[.agg (setC noneF),.int .i64 0,.int .i64 (e : Int)]) ∧ Below w1.heap.size w1 w' from hE)
    replace h1:=lhi h1
    clear h hr ea eb ec
    go_enter Tryz.func172,Tryz.ntmps172
    go_wp2_with (first
     | (go_at_call 146;refine (begins_is h'.out ⟨#[91,58]⟩ true h1.out).mono ?_;rintro e w1 ⟨rfl,hb1⟩)
     | (go_at_call 169;refine (hE.out _ (h'.out.grow hb1)).mono ?_;rintro e w2 ⟨rfl,hb2⟩))
    go_ret3
    exact ⟨rfl,hb1.trans (hb2.mono hb1.size)⟩
theorem ofL_one (x : UInt8) : ofL [x] = oneF x:=by
 funext c
 simp [ofL,oneF,oneF.ofB]
theorem of_one (w : World) (x : UInt8) :
    Calls Tryz.prog 82 #[.slice (some ⟨w.heap.size,0,none⟩) 1 1] (w.alloc (.cells #[.int .u8 (x.toNat : Int)] 5)) fun e w' => e = .returned (.agg (setC (oneF x))) ∧ Below w.heap.size w w':=by
 have hb : Below w.heap.size w (w.alloc (.cells #[.int .u8 (x.toNat : Int)] 5)):=(Below.refl _ _).alloc (nlr _) _
 have hx:=byt_new w [x] 5 (0,0)
 refine (of_any (some ⟨w.heap.size,0,none⟩) 1 1 [x] (w.heap.size + 1) _ rfl (nlr _) (by decide) (by simp) hx).mono fun e w' ⟨he,hw⟩ => ⟨?_,hb.trans (hw.mono hb.size)⟩
 rw [he,ofL_one];rfl
theorem range_at (x y : UInt8) (w : World) :
    Calls Tryz.prog 173 #[.int .u8 (x.toNat : Int),.int .u8 (y.toNat : Int)] w fun e w' => e = .returned (.agg (setC (rngF x y))) ∧ Below w.heap.size w w' :=
 range_any x.toNat y.toNat w x.toNat_lt y.toNat_lt
theorem item_bad {l : List UInt8} {e : Nat} (hp : piece l = .bad e) : item l = .error e:=by unfold item;rw [hp]
theorem item_alone {l : List UInt8} {c : UInt8} {n : Nat} (hp : piece l = .one c n) (hj : joins (l.drop n) = false) : item l = .ok (oneF c,n):=by unfold item;rw [hp];simp [hj]
theorem item_two {l : List UInt8} {c : UInt8} {n : Nat} (hp : piece l = .one c n) (hj : joins (l.drop n) = true) : item l = match piece (l.drop (n + 1)) with
      | .bad e => .error e
      | .cls _ _ => .error 3
      | .one d m => if d < c then .error 3 else .ok (rngF c d,n + 1 + m):=by unfold item;rw [hp];simp only [hj,if_true];rfl
theorem item_late {l : List UInt8} {c : UInt8} {n : Nat} (hp : piece l = .one c n) (hj : joins (l.drop n) = true) {e : Nat} (hq : endC (piece (l.drop (n + 1))) = (e : Int)) (he : ((e : Int) != 0) = true) : item l = .error e:=by
 rw [item_two hp hj]
 cases hx : piece (l.drop (n + 1)) with
 | bad e' => rw [hx] at hq;simp only [endC] at hq;rw [show e' = e by omega]
 | cls nm m => rw [hx] at hq;simp only [endC] at hq;rw [show e = 3 by omega]
 | one d m => rw [hx] at hq;simp only [endC] at hq;simp [← hq] at he
theorem item_any {A : Option Addr} {n c : Nat} {l : List UInt8} {w : World} (h : Inp w A n c l) :
    Calls Tryz.prog 159 #[.slice A n c] w fun e w' => e = .returned (.tuple #[.agg (setC (told (item l)).1),.int .i64 ((told (item l)).2.1 : Int),.int .i64 ((told (item l)).2.2 : Int)]) ∧ Below w.heap.size w w':=by
 have h':=lhi h
 have hz:=build_set
 have hW0:=lhi (show Below w.heap.size w (w.alloc (.cells #[.int .u64 0,.int .u64 0,.int .u64 0,.int .u64 0] 41)) from (Below.refl _ _).alloc (nlr _) _)
 have hS0:=lhi (set_zero' w)
 cases h1 : bg [91,58] l with
 | true =>
  rw [item_named h1]
  have hE:=lhi (fun w1 (h : Inp w1 A n c l) => named7_any h h1)
  replace h1:=lhi h1
  clear h
  generalize (told (namedR l)).1 = F at *
  generalize (told (namedR l)).2.1 = m at *
  generalize (told (namedR l)).2.2 = d at *
  go_enter Tryz.func159,Tryz.ntmps159
  go_wp2_with (first
   | (go_at_call 146;refine (begins_is (h'.out.grow hW0.out) ⟨#[91,58]⟩ true h1.out).mono ?_;rintro e w1 ⟨rfl,hb1⟩;have hW1:=lhi (hW0.out.trans (hb1.mono hW0.out.size));have hS1:=lhi (hS0.out.below hb1 hS0.out.lt))
   | (go_at_call 169;refine (hE.out _ (h'.out.grow hW1.out)).mono ?_;rintro e w2 ⟨rfl,hb2⟩;have hW2:=lhi (hW1.out.trans (hb2.mono hW1.out.size));have hS2:=lhi (hS1.out.below hb2 hS1.out.lt))
   | (refine wpList_store_row rfl 41 (.tmp 2) (.tmp 14) rfl w.heap.size (setC F) rfl rfl 41 _ hS2.out (set_size _) (set_hold _ _) (set_cells _) ?_))
  exact bodyPost_ret (v:=.tuple #[.agg (setC F),.int .i64 (m : Int),.int .i64 (d : Int)]) (results_cell_three Tryz.results159 _ _ w.heap.size 41 (setC F) (0,0) _ rfl rfl rfl (hS2.out.put _) Tryz.underlying41 rfl (set_size _)) rfl ⟨rfl,below_put hW2.out (nlr _) _⟩
 | false =>
  have hp : piece l = endP l:=by unfold piece;rw [h1];rfl
  have hE:=fun w1 (h : Inp w1 A n c l) => end_any h
  rw [← hp] at hE
  replace h1:=lhi h1
  cases hpc : piece l with
  | cls nm m => rw [hp] at hpc;exact absurd hpc endP_cls
  | bad e =>
   have hne : ((e : Int) != 0) = true:=by have:=piece_err hpc;simp;omega
   rw [item_bad hpc]
   rw [hpc] at hE
   replace hE:=lhi (show ∀ w1,Inp w1 A n c l → Calls Tryz.prog 170 #[.slice A n c] w1 fun e' w' => e' = .returned (.tuple #[.int .u8 0,.int .i64 0,.int .i64 (e : Int)]) ∧ Below w1.heap.size w1 w' from hE)
   clear h hp hpc
   go_enter Tryz.func159,Tryz.ntmps159
   go_wp2_with (first
    | (go_at_call 146;refine (begins_is (h'.out.grow hW0.out) ⟨#[91,58]⟩ false h1.out).mono ?_;rintro e w1 ⟨rfl,hb1⟩;have hW1:=lhi (hW0.out.trans (hb1.mono hW0.out.size));have hS1:=lhi (hS0.out.below hb1 hS0.out.lt))
    | (go_at_call 170;refine (hE.out _ (h'.out.grow hW1.out)).mono ?_;rintro e w2 ⟨rfl,hb2⟩;have hW2:=lhi (hW1.out.trans (hb2.mono hW1.out.size));have hS2:=lhi (hS1.out.below hb2 hS1.out.lt))
    | (refine wpList_store_row rfl 41 (.tmp 2) (.tmp 25) rfl w.heap.size (setC noneF) rfl (by rw [setC_noneF];rfl) 41 _ hS2.out (set_size _) (set_hold _ _) (set_cells _) ?_))
   exact bodyPost_ret (v:=.tuple #[.agg (setC noneF),.int .i64 0,.int .i64 (e : Int)]) (results_cell_three Tryz.results159 _ _ w.heap.size 41 (setC noneF) (0,0) _ rfl rfl rfl (hS2.out.put _) Tryz.underlying41 rfl (set_size _)) rfl ⟨rfl,below_put hW2.out (nlr _) _⟩
  | one x k =>
   have hk:=piece_one_size hpc
   have hn:=h.len
   have hdr:=h.drop (i:=k) (by omega)
   rw [hpc] at hE
   replace hE:=lhi (show ∀ w1,Inp w1 A n c l → Calls Tryz.prog 170 #[.slice A n c] w1 fun e' w' => e' = .returned (.tuple #[.int .u8 (x.toNat : Int),.int .i64 (k : Int),.int .i64 0]) ∧ Below w1.heap.size w1 w' from hE)
   obtain ⟨ad,rfl⟩:=h.some_ (by omega)
   have hJ:=fun w2 (hb : Below w.heap.size w w2) => joins_any (hdr.grow hb)
   have hkn : k ≤ n:=by omega
   have hns : n ≤ 1000000:=h.2.2.2.1
   have hnc:=h.2.1
   have hcm:=h.2.2.1
   unfold maxLen at hcm
   cases hj : joins (l.drop k) with
   | false =>
    rw [item_alone hpc hj]
    rw [hj] at hJ
    replace hJ:=lhi hJ
    clear h hp hpc hj hn hdr
    by_cases hcN : c = k
    · subst hcN
      obtain rfl : n = c:=by omega
      rw [if_pos rfl,Nat.sub_self] at hJ
      go_enter Tryz.func159,Tryz.ntmps159
      go_wp2_with (first
       | (go_at_call 146;refine (begins_is (h'.out.grow hW0.out) ⟨#[91,58]⟩ false h1.out).mono ?_;rintro e w1 ⟨rfl,hb1⟩;have hW1:=lhi (hW0.out.trans (hb1.mono hW0.out.size));have hS1:=lhi (hS0.out.below hb1 hS0.out.lt))
       | (go_at_call 170;refine (hE.out _ (h'.out.grow hW1.out)).mono ?_;rintro e w2 ⟨rfl,hb2⟩;have hW2:=lhi (hW1.out.trans (hb2.mono hW1.out.size));have hS2:=lhi (hS1.out.below hb2 hS1.out.lt))
       | (go_at_call 171;with_reducible refine (hJ.out _ hW2.out).mono ?_;rintro e w3 ⟨rfl,hb3⟩;have hW3:=lhi (hW2.out.trans (hb3.mono hW2.out.size));have hS3:=lhi (hS2.out.below hb3 hS2.out.lt))
       | (go_at_call 82;refine (of_one w3 x).mono ?_;rintro e w4 ⟨rfl,hb4⟩;have hW4:=lhi (hW3.out.trans (hb4.mono hW3.out.size));have hS4:=lhi (hS3.out.below hb4 hS3.out.lt))
       | (refine wpList_store_row rfl 41 (.tmp 2) (.tmp 34) rfl w.heap.size (setC (oneF x)) rfl rfl 41 _ hS4.out (set_size _) (set_hold _ _) (set_cells _) ?_))
      exact bodyPost_ret (v:=.tuple #[.agg (setC (oneF x)),.int .i64 (n : Int),.int .i64 0]) (results_cell_three Tryz.results159 _ _ w.heap.size 41 (setC (oneF x)) (0,0) _ rfl rfl rfl (hS4.out.put _) Tryz.underlying41 rfl (set_size _)) rfl ⟨rfl,below_put hW4.out (nlr _) _⟩
    · rw [if_neg hcN,Option.map_some] at hJ
      go_enter Tryz.func159,Tryz.ntmps159
      go_wp2_with (first
       | (go_at_call 146;refine (begins_is (h'.out.grow hW0.out) ⟨#[91,58]⟩ false h1.out).mono ?_;rintro e w1 ⟨rfl,hb1⟩;have hW1:=lhi (hW0.out.trans (hb1.mono hW0.out.size));have hS1:=lhi (hS0.out.below hb1 hS0.out.lt))
       | (go_at_call 170;refine (hE.out _ (h'.out.grow hW1.out)).mono ?_;rintro e w2 ⟨rfl,hb2⟩;have hW2:=lhi (hW1.out.trans (hb2.mono hW1.out.size));have hS2:=lhi (hS1.out.below hb2 hS1.out.lt))
       | (go_at_call 171;with_reducible refine (hJ.out _ hW2.out).mono ?_;rintro e w3 ⟨rfl,hb3⟩;have hW3:=lhi (hW2.out.trans (hb3.mono hW2.out.size));have hS3:=lhi (hS2.out.below hb3 hS2.out.lt))
       | (go_at_call 82;refine (of_one w3 x).mono ?_;rintro e w4 ⟨rfl,hb4⟩;have hW4:=lhi (hW3.out.trans (hb4.mono hW3.out.size));have hS4:=lhi (hS3.out.below hb4 hS3.out.lt))
       | (refine wpList_store_row rfl 41 (.tmp 2) (.tmp 34) rfl w.heap.size (setC (oneF x)) rfl rfl 41 _ hS4.out (set_size _) (set_hold _ _) (set_cells _) ?_))
      exact bodyPost_ret (v:=.tuple #[.agg (setC (oneF x)),.int .i64 (k : Int),.int .i64 0]) (results_cell_three Tryz.results159 _ _ w.heap.size 41 (setC (oneF x)) (0,0) _ rfl rfl rfl (hS4.out.put _) Tryz.underlying41 rfl (set_size _)) rfl ⟨rfl,below_put hW4.out (nlr _) _⟩
   | true =>
    have hk1 : k + 1 ≤ n:=by
     by_cases e : k < n
     · exact e
     · rw [List.drop_of_length_le (by omega)] at hj
       cases hj
    have hdr2:=h.drop (i:=k + 1) hk1
    have hQ:=fun w2 (hb : Below w.heap.size w w2) => secondEnd_any (hdr2.grow hb)
    rw [hj] at hJ
    rw [if_neg (by omega),Option.map_some] at hJ
    replace hJ:=lhi hJ
    by_cases hcN : c = k + 1
    · subst hcN
      obtain rfl : n = k + 1:=by omega
      rw [if_pos rfl,Nat.sub_self] at hQ
      rw [show k + 1 - k = 1 by omega] at hJ
      have hp2 : piece (l.drop (k + 1)) = .bad 11:=by rw [List.drop_of_length_le (by omega)];rfl
      rw [hp2] at hQ
      replace hQ:=lhi (show ∀ w2,Below w.heap.size w w2 → Calls Tryz.prog 172 #[.slice (some ad) 0 0] w2 fun e w' => e = .returned (.tuple #[.int .u8 0,.int .i64 0,.int .i64 11]) ∧ Below w2.heap.size w2 w' from hQ)
      rw [item_late (e:=11) hpc hj (by rw [hp2];rfl) rfl]
      clear h hp hpc hj hn hdr hdr2 hp2
      go_enter Tryz.func159,Tryz.ntmps159
      go_wp2_with (first
       | (go_at_call 146;refine (begins_is (h'.out.grow hW0.out) ⟨#[91,58]⟩ false h1.out).mono ?_;rintro e w1 ⟨rfl,hb1⟩;have hW1:=lhi (hW0.out.trans (hb1.mono hW0.out.size));have hS1:=lhi (hS0.out.below hb1 hS0.out.lt))
       | (go_at_call 170;refine (hE.out _ (h'.out.grow hW1.out)).mono ?_;rintro e w2 ⟨rfl,hb2⟩;have hW2:=lhi (hW1.out.trans (hb2.mono hW1.out.size));have hS2:=lhi (hS1.out.below hb2 hS1.out.lt))
       | (go_at_call 171;with_reducible refine (hJ.out _ hW2.out).mono ?_;rintro e w3 ⟨rfl,hb3⟩;have hW3:=lhi (hW2.out.trans (hb3.mono hW2.out.size));have hS3:=lhi (hS2.out.below hb3 hS2.out.lt))
       | (go_at_call 172;with_reducible refine (hQ.out _ hW3.out).mono ?_;rintro e w4 ⟨rfl,hb4⟩;have hW4:=lhi (hW3.out.trans (hb4.mono hW3.out.size));have hS4:=lhi (hS3.out.below hb4 hS3.out.lt))
       | (refine wpList_store_row rfl 41 (.tmp 2) (.tmp 48) rfl w.heap.size (setC noneF) rfl (by rw [setC_noneF];rfl) 41 _ hS4.out (set_size _) (set_hold _ _) (set_cells _) ?_))
      exact bodyPost_ret (v:=.tuple #[.agg (setC noneF),.int .i64 0,.int .i64 11]) (results_cell_three Tryz.results159 _ _ w.heap.size 41 (setC noneF) (0,0) _ rfl rfl rfl (hS4.out.put _) Tryz.underlying41 rfl (set_size _)) rfl ⟨rfl,below_put hW4.out (nlr _) _⟩
    · rw [if_neg hcN,Option.map_some,add_succ] at hQ
      cases hqc : piece (l.drop (k + 1)) with
      | bad e =>
       have hne : ((e : Int) != 0) = true:=by have:=piece_err hqc;simp;omega
       rw [hqc] at hQ
       replace hQ:=lhi (show ∀ w2,Below w.heap.size w w2 → Calls Tryz.prog 172 #[.slice (some ⟨ad.block,ad.off + (k + 1),none⟩) (n - (k + 1)) (c - (k + 1))] w2 fun e' w' => e' = .returned (.tuple #[.int .u8 0,.int .i64 0,.int .i64 (e : Int)]) ∧ Below w2.heap.size w2 w' from hQ)
       rw [item_late (e:=e) hpc hj (by rw [hqc];rfl) hne]
       clear h hp hpc hj hn hdr hdr2 hqc
       go_enter Tryz.func159,Tryz.ntmps159
       go_wp2_with (first
        | (go_at_call 146;refine (begins_is (h'.out.grow hW0.out) ⟨#[91,58]⟩ false h1.out).mono ?_;rintro e w1 ⟨rfl,hb1⟩;have hW1:=lhi (hW0.out.trans (hb1.mono hW0.out.size));have hS1:=lhi (hS0.out.below hb1 hS0.out.lt))
        | (go_at_call 170;refine (hE.out _ (h'.out.grow hW1.out)).mono ?_;rintro e w2 ⟨rfl,hb2⟩;have hW2:=lhi (hW1.out.trans (hb2.mono hW1.out.size));have hS2:=lhi (hS1.out.below hb2 hS1.out.lt))
        | (go_at_call 171;with_reducible refine (hJ.out _ hW2.out).mono ?_;rintro e w3 ⟨rfl,hb3⟩;have hW3:=lhi (hW2.out.trans (hb3.mono hW2.out.size));have hS3:=lhi (hS2.out.below hb3 hS2.out.lt))
        | (go_at_call 172;with_reducible refine (hQ.out _ hW3.out).mono ?_;rintro e w4 ⟨rfl,hb4⟩;have hW4:=lhi (hW3.out.trans (hb4.mono hW3.out.size));have hS4:=lhi (hS3.out.below hb4 hS3.out.lt))
        | (refine wpList_store_row rfl 41 (.tmp 2) (.tmp 48) rfl w.heap.size (setC noneF) rfl (by rw [setC_noneF];rfl) 41 _ hS4.out (set_size _) (set_hold _ _) (set_cells _) ?_))
       exact bodyPost_ret (v:=.tuple #[.agg (setC noneF),.int .i64 0,.int .i64 (e : Int)]) (results_cell_three Tryz.results159 _ _ w.heap.size 41 (setC noneF) (0,0) _ rfl rfl rfl (hS4.out.put _) Tryz.underlying41 rfl (set_size _)) rfl ⟨rfl,below_put hW4.out (nlr _) _⟩
      | cls nm m =>
       rw [hqc] at hQ
       replace hQ:=lhi (show ∀ w2,Below w.heap.size w w2 → Calls Tryz.prog 172 #[.slice (some ⟨ad.block,ad.off + (k + 1),none⟩) (n - (k + 1)) (c - (k + 1))] w2 fun e' w' => e' = .returned (.tuple #[.int .u8 0,.int .i64 0,.int .i64 3]) ∧ Below w2.heap.size w2 w' from hQ)
       rw [item_late (e:=3) hpc hj (by rw [hqc];rfl) rfl]
       clear h hp hpc hj hn hdr hdr2 hqc
       go_enter Tryz.func159,Tryz.ntmps159
       go_wp2_with (first
        | (go_at_call 146;refine (begins_is (h'.out.grow hW0.out) ⟨#[91,58]⟩ false h1.out).mono ?_;rintro e w1 ⟨rfl,hb1⟩;have hW1:=lhi (hW0.out.trans (hb1.mono hW0.out.size));have hS1:=lhi (hS0.out.below hb1 hS0.out.lt))
        | (go_at_call 170;refine (hE.out _ (h'.out.grow hW1.out)).mono ?_;rintro e w2 ⟨rfl,hb2⟩;have hW2:=lhi (hW1.out.trans (hb2.mono hW1.out.size));have hS2:=lhi (hS1.out.below hb2 hS1.out.lt))
        | (go_at_call 171;with_reducible refine (hJ.out _ hW2.out).mono ?_;rintro e w3 ⟨rfl,hb3⟩;have hW3:=lhi (hW2.out.trans (hb3.mono hW2.out.size));have hS3:=lhi (hS2.out.below hb3 hS2.out.lt))
        | (go_at_call 172;with_reducible refine (hQ.out _ hW3.out).mono ?_;rintro e w4 ⟨rfl,hb4⟩;have hW4:=lhi (hW3.out.trans (hb4.mono hW3.out.size));have hS4:=lhi (hS3.out.below hb4 hS3.out.lt))
        | (refine wpList_store_row rfl 41 (.tmp 2) (.tmp 48) rfl w.heap.size (setC noneF) rfl (by rw [setC_noneF];rfl) 41 _ hS4.out (set_size _) (set_hold _ _) (set_cells _) ?_))
       exact bodyPost_ret (v:=.tuple #[.agg (setC noneF),.int .i64 0,.int .i64 3]) (results_cell_three Tryz.results159 _ _ w.heap.size 41 (setC noneF) (0,0) _ rfl rfl rfl (hS4.out.put _) Tryz.underlying41 rfl (set_size _)) rfl ⟨rfl,below_put hW4.out (nlr _) _⟩
      | one y m =>
       have hm:=piece_one_size hqc
       rw [List.length_drop] at hm
       have hmn : k + 1 + m ≤ n:=by omega
       rw [hqc] at hQ
       replace hQ:=lhi (show ∀ w2,Below w.heap.size w w2 → Calls Tryz.prog 172 #[.slice (some ⟨ad.block,ad.off + (k + 1),none⟩) (n - (k + 1)) (c - (k + 1))] w2 fun e' w' => e' = .returned (.tuple #[.int .u8 (y.toNat : Int),.int .i64 (m : Int),.int .i64 0]) ∧ Below w2.heap.size w2 w' from hQ)
       have hit:=item_two hpc hj
       rw [hqc] at hit
       simp only at hit
       have hRg:=lhi (range_at x y)
       by_cases hlt : y < x
       · rw [if_pos hlt] at hit
         rw [hit]
         have hlt' : y.toNat < x.toNat:=hlt
         generalize x.toNat = X at *
         generalize y.toNat = Y at *
         clear h hp hpc hj hn hdr hdr2 hqc hit hm hlt
         go_enter Tryz.func159,Tryz.ntmps159
         go_wp2_with (first
          | (go_at_call 146;refine (begins_is (h'.out.grow hW0.out) ⟨#[91,58]⟩ false h1.out).mono ?_;rintro e w1 ⟨rfl,hb1⟩;have hW1:=lhi (hW0.out.trans (hb1.mono hW0.out.size));have hS1:=lhi (hS0.out.below hb1 hS0.out.lt))
          | (go_at_call 170;refine (hE.out _ (h'.out.grow hW1.out)).mono ?_;rintro e w2 ⟨rfl,hb2⟩;have hW2:=lhi (hW1.out.trans (hb2.mono hW1.out.size));have hS2:=lhi (hS1.out.below hb2 hS1.out.lt))
          | (go_at_call 171;with_reducible refine (hJ.out _ hW2.out).mono ?_;rintro e w3 ⟨rfl,hb3⟩;have hW3:=lhi (hW2.out.trans (hb3.mono hW2.out.size));have hS3:=lhi (hS2.out.below hb3 hS2.out.lt))
          | (go_at_call 172;with_reducible refine (hQ.out _ hW3.out).mono ?_;rintro e w4 ⟨rfl,hb4⟩;have hW4:=lhi (hW3.out.trans (hb4.mono hW3.out.size));have hS4:=lhi (hS3.out.below hb4 hS3.out.lt))
          | (refine wpList_store_row rfl 41 (.tmp 2) (.tmp 53) rfl w.heap.size (setC noneF) rfl (by rw [setC_noneF];rfl) 41 _ hS4.out (set_size _) (set_hold _ _) (set_cells _) ?_))
         exact bodyPost_ret (v:=.tuple #[.agg (setC noneF),.int .i64 0,.int .i64 3]) (results_cell_three Tryz.results159 _ _ w.heap.size 41 (setC noneF) (0,0) _ rfl rfl rfl (hS4.out.put _) Tryz.underlying41 rfl (set_size _)) rfl ⟨rfl,below_put hW4.out (nlr _) _⟩
       · rw [if_neg hlt] at hit
         rw [hit]
         have hlt' : ¬ y.toNat < x.toNat:=hlt
         generalize hF : rngF x y = F at *
         replace hF:=lhi hF
         generalize x.toNat = X at *
         generalize y.toNat = Y at *
         clear h hp hpc hj hn hdr hdr2 hqc hit hm hlt
         go_enter Tryz.func159,Tryz.ntmps159
         go_wp2_with (first
          | (go_at_call 146;refine (begins_is (h'.out.grow hW0.out) ⟨#[91,58]⟩ false h1.out).mono ?_;rintro e w1 ⟨rfl,hb1⟩;have hW1:=lhi (hW0.out.trans (hb1.mono hW0.out.size));have hS1:=lhi (hS0.out.below hb1 hS0.out.lt))
          | (go_at_call 170;refine (hE.out _ (h'.out.grow hW1.out)).mono ?_;rintro e w2 ⟨rfl,hb2⟩;have hW2:=lhi (hW1.out.trans (hb2.mono hW1.out.size));have hS2:=lhi (hS1.out.below hb2 hS1.out.lt))
          | (go_at_call 171;with_reducible refine (hJ.out _ hW2.out).mono ?_;rintro e w3 ⟨rfl,hb3⟩;have hW3:=lhi (hW2.out.trans (hb3.mono hW2.out.size));have hS3:=lhi (hS2.out.below hb3 hS2.out.lt))
          | (go_at_call 172;with_reducible refine (hQ.out _ hW3.out).mono ?_;rintro e w4 ⟨rfl,hb4⟩;have hW4:=lhi (hW3.out.trans (hb4.mono hW3.out.size));have hS4:=lhi (hS3.out.below hb4 hS3.out.lt))
          | (go_at_call 173;refine (hRg.out _).mono ?_;rintro e w5 ⟨rfl,hb5⟩;have hW5:=lhi (hW4.out.trans (hb5.mono hW4.out.size));have hS5:=lhi (hS4.out.below hb5 hS4.out.lt))
          | (refine wpList_store_row rfl 41 (.tmp 2) (.tmp 56) rfl w.heap.size (setC F) rfl rfl 41 _ hS5.out (set_size _) (set_hold _ _) (set_cells _) ?_))
         exact bodyPost_ret (v:=.tuple #[.agg (setC F),.int .i64 ((k + 1 + m : Nat) : Int),.int .i64 0]) (results_cell_three Tryz.results159 _ _ w.heap.size 41 (setC F) (0,0) _ rfl rfl rfl (hS5.out.put _) Tryz.underlying41 rfl (set_size _)) rfl ⟨rfl,below_put hW5.out (nlr _) _⟩
end Go.Proofs.YtonjnagcdnmcpaaGreatDoor
