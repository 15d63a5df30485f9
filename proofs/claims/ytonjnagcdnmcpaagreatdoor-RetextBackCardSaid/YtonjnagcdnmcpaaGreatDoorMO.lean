/- Contracts and plain facts: MO. -/
import Derived.Test.YtonjnagcdnmcpaaGreatDoorM40
set_option linter.unusedVariables false
set_option linter.unusedSimpArgs false
set_option maxRecDepth 100000
set_option maxHeartbeats 32000000
namespace Go.Proofs.YtonjnagcdnmcpaaGreatDoor
open Go.RowKit Go.ChangeShapes Go.WideShapes
section
variable {w w' : World} {B B' : Nat} {A : Option Addr} {xs : List Value}
end
section
variable {w w' : World} {B B' : Nat} {A : Option Addr} {l : List UInt8}
end
section
variable {H : Type} {enc : TypeId × Value → H} {P : Program} {W : World}
theorem open_cells {k : IntKind} {t e : TypeId} {v : Value} {d : DataW H} {ps : List MemPlace} {r : Reach} {base : Nat} (ht : P.underlying t = some (.slice e)) (he : P.underlying e = some (.int k)) (hc : P.cellsOf e = 1)
    (hv : Value.okWide P W r base t v) (h : DataW.Trod enc P W 0 (fun _ => true) true t v d ps) :
    ∃ (A : Option Addr) (n cap : Nat) (zs : List Int),v = .slice A n cap ∧ n = zs.length ∧ n ≤ cap ∧ cap ≤ maxLen ∧ (∀ z ∈ zs,(Lit.int k z).wf = true) ∧ Vals W W.heap.size A (zs.map (Value.int k)):=by
 obtain ⟨a0,len,cap,rfl⟩:=okWide_slice ht hv
 obtain ⟨fuel,hf⟩:=h
 rcases open_ints ht he hc hf with ⟨hcs,_⟩ | ⟨a,len',cap',zs,hcs,_,hl,hm,hz,_,hcell,hw⟩
 · have e1 : Value.slice a0 len cap = .slice none 0 0:=by simpa [Value.cells] using hcs
   rw [e1]
   exact ⟨none,0,0,[],rfl,rfl,nlr _,by simp [maxLen],fun _ h => (by cases h),Vals.none_ _ _ _⟩
 · have e1 : Value.slice a0 len cap = .slice (some a) len' cap':=by simpa [Value.cells] using hcs
   rw [e1]
   simp only [if_true] at hz
   refine ⟨some a,len',cap',zs.take len',rfl,by rw [List.length_take];omega,hl,hm,fun z h => hw z (List.mem_of_mem_take h),?_⟩
   intro j hj
   rw [List.length_map,List.length_take] at hj
   have h1:=hcell j (by omega)
   refine ⟨a,rfl,?_,?_⟩
   · have:=World.block_lt_of_cell? _ _ h1
     rwa [block_add] at this
   · rw [h1];simp [List.getD,List.getElem?_eq_getElem (show j < zs.length by omega)]
theorem open_byt {t e : TypeId} {v : Value} {d : DataW H} {ps : List MemPlace} {r : Reach} {base : Nat} (ht : P.underlying t = some (.slice e)) (he : P.underlying e = some (.int .u8)) (hc : P.cellsOf e = 1)
    (hv : Value.okWide P W r base t v) (h : DataW.Trod enc P W 0 (fun _ => true) true t v d ps) :
    ∃ (A : Option Addr) (n cap : Nat) (l : List UInt8),v = .slice A n cap ∧ n = l.length ∧ n ≤ cap ∧ cap ≤ maxLen ∧ Byt W W.heap.size A l:=by
 obtain ⟨A,n,cap,zs,hv,hn,hcap,hm,hw,hr⟩:=open_cells ht he hc hv h
 have hz : zs.map (Value.int .u8) = bv (zs.map fun z => UInt8.ofNat z.toNat):=by
  unfold bv
  rw [List.map_map]
  refine List.map_congr_left fun z hz => ?_
  have:=hw z hz
  have hb : 0 ≤ z ∧ z ≤ 255:=bounds_u8 this
  obtain ⟨y,rfl⟩:=Int.eq_ofNat_of_zero_le hb.1
  simp only [Function.comp_apply,Int.toNat_natCast,UInt8.toNat_ofNat',Value.int.injEq,true_and]
  omega
 rw [hz] at hr
 exact ⟨A,n,cap,zs.map fun z => UInt8.ofNat z.toNat,hv,by rw [List.length_map];exact hn,hcap,hm,hr.byt⟩
end
end Go.Proofs.YtonjnagcdnmcpaaGreatDoor
namespace Go.Proofs.YtonjnagcdnmcpaaGreatDoor
open Go.RowKit
section
variable {P : Program} {w : World}
end
theorem bv_one (l : List UInt8) : ∀ u ∈ bv l,u.oneCell' = true:=by
 intro u h
 obtain ⟨c,_,rfl⟩:=List.mem_map.1 h
 rfl
theorem Vals.src {w : World} {B : Nat} {A : Option Addr} {xs : List Value} (h : Vals w B A xs) : Src w A xs:=fun j u hj => by
 obtain ⟨hlt,rfl⟩:=List.getElem?_eq_some_iff.1 hj
 obtain ⟨ad,h1,_,h2⟩:=h j hlt
 exact ⟨ad,h1,h2⟩
section
variable {P : Program} {w : World}
end
theorem sameNs_self (l : List Nod) : sameNs l l = true:=(sameNs_iff l l).2 rfl
section
variable {pre en s : List UInt8} {m n : Nat} {e0 : UInt8} {er : List UInt8}
end
theorem bas_no3 {l : List UInt8} {ns : List Nod} {g : Nat} (h : Ends l cf0 (.fin ns g)) : No3 ns:=by
 obtain ⟨c,hs,hst,-⟩:=h
 have hall : No3 c.ns:=by
  have h0 : No3 cf0.ns:=fun n hn => by simp [cf0] at hn
  generalize cf0 = c0 at hs h0
  induction hs with
  | refl => exact h0
  | head h1 _ ih => exact ih hst (h0.step h1)
 obtain ⟨-,-,-,⟨x,hc⟩,-⟩:=step_fin hst
 exact hall.cat hc
def szE (c : Ce) : Nat:=c.ns.length + c.g + (c.bs.length + (c.lv.map fun a => a.2.2.length).sum)
theorem szE_pm {l : List UInt8} {c c1 : Ce} (h : stepPm c (pieE l c.i) = .go c1) : DE l c.i + szE c ≤ DE l c1.i + szE c1:=by
 obtain ⟨ct,i,ns,g,cl,ps,bs,lv⟩:=c
 cases ha : pieE l i with
 | bad e => simp only [ha] at h;cases h
 | opn =>
  simp only [ha,stepPm] at h
  split at h
  · injection h with h
    subst h
    have hx : nx l i = 40:=by
     unfold pieE at ha
     cases hd : l.drop i with
     | nil => rw [hd] at ha;cases ha
     | cons x r =>
      rw [hd] at ha
      simp only [pieR] at ha
      by_cases hx : x = 40
      · subst hx;exact nx_at hd
      · exfalso
        rw [if_neg hx] at ha
        have he:=(esc_kinds (i:=i) (r:=r)).2.2
        repeat' split at ha
        all_goals first
         | cases ha;done
         | (cases hq : escE i r <;> rw [hq] at ha <;> first | exact absurd hq he | cases ha)
         | (unfold brkA at ha;cases hq : readB l (i + 1) <;> rw [hq] at ha <;> cases ha)
    have:=DE_next (nxt_one (.inr (.inr (.inr (.inl hx)))))
    simp only [szE,List.map_cons,List.sum_cons,List.length_nil]
    omega
  · cases h
 | bak q =>
  simp only [ha,stepPm] at h
  split at h
  · injection h with h
    subst h
    have:=DE_next (nxt_bak ha)
    simp only [szE,lla,lls]
    omega
  · cases h
 | nod j n =>
  simp only [ha] at h
  injection h with h
  subst h
  have:=DE_next (nxt_nod ha)
  simp only [szE,lla,lls]
  omega
 | anc n =>
  simp only [ha] at h
  injection h with h
  subst h
  have:=DE_next (nxt_anc ha)
  simp only [szE,lla,lls]
  omega
theorem HasT.no3 {ns : List Nod} {g : Int} (h : HasT false ns g) : ∀ n ∈ ns,n.kind ≠ 3:=by
 obtain ⟨-,ms,q,h1,-,h3⟩:=h
 have hno:=bas_no3 (show Ends _ cf0 _ from h1)
 intro n hn e
 have hm : nodL n ∈ ms.map nodL:=by
  have h3 : ms.map nodL = ns.map nodL:=h3
  rw [h3];exact List.mem_map.2 ⟨n,hn,rfl⟩
 obtain ⟨m,hm1,hm2⟩:=List.mem_map.1 hm
 have:=((nodL_iff m n).1 hm2).1
 exact hno m hm1 (this.trans e)
theorem depE_le (l : List UInt8) : ∀ k i,depE l k i ≤ k
 | 0,_ => nlr _
 | k + 1,i => by
  cases hn : nxtE l i with
  | none => simp only [depE,hn];omega
  | some j => have:=depE_le l k j;simp only [depE,hn];omega
def hdN : Ct → Nat
 | .P _ => 1
 | _ => 0
def upE (c : Ce) : Nat:=c.ns.length + c.ps.length + hdN c.ct + c.bs.length + (c.lv.map fun a => a.2.1.length + a.2.2.length).sum
theorem chn_le (k : Int) (ns : List Nod) (ps : List Int) : (chn k ns ps).2.length ≤ ns.length + ps.length:=by
 cases ps with
 | nil => simp [chn]
 | cons x r => have:=chn_len k ns (ps:=x :: r) (by simp);omega
theorem upE_pm {l : List UInt8} {c c1 : Ce} (hct : hdN c.ct = 0) (h : stepPm c (pieE l c.i) = .go c1) : upE c1 + 2 * DE l c1.i ≤ upE c + 2 * DE l c.i:=by
 obtain ⟨ct,i,ns,g,cl,ps,bs,lv⟩:=c
 simp only at hct
 cases ha : pieE l i with
 | bad e => simp only [ha] at h;cases h
 | opn =>
  simp only [ha,stepPm] at h
  split at h
  · injection h with h
    subst h
    have hx : nx l i = 40:=by
     have:=szE_pm (l:=l) (c:=⟨ct,i,ns,g,cl,ps,bs,lv⟩) (c1:=⟨.B,i + 1,ns,g + 1,cl,[],[],(g + 1,ps,bs) :: lv⟩)
     unfold pieE at ha
     cases hd : l.drop i with
     | nil => rw [hd] at ha;cases ha
     | cons x r =>
      rw [hd] at ha
      simp only [pieR] at ha
      by_cases hx : x = 40
      · subst hx;exact nx_at hd
      · exfalso
        rw [if_neg hx] at ha
        have he:=(esc_kinds (i:=i) (r:=r)).2.2
        repeat' split at ha
        all_goals first
         | cases ha;done
         | (cases hq : escE i r <;> rw [hq] at ha <;> first | exact absurd hq he | cases ha)
         | (unfold brkA at ha;cases hq : readB l (i + 1) <;> rw [hq] at ha <;> cases ha)
    have:=DE_next (nxt_one (.inr (.inr (.inr (.inl hx)))))
    simp only [upE,hdN,hct,List.map_cons,List.sum_cons,List.length_nil]
    omega
  · cases h
 | bak q =>
  simp only [ha,stepPm] at h
  split at h
  · injection h with h
    subst h
    have:=DE_next (nxt_bak ha)
    simp only [upE,hdN,hct,lla,lls]
    omega
  · cases h
 | nod j n =>
  simp only [ha] at h
  injection h with h
  subst h
  have:=DE_next (nxt_nod ha)
  simp only [upE,hdN,hct,lla,lls]
  omega
 | anc n =>
  simp only [ha] at h
  injection h with h
  subst h
  have:=DE_next (nxt_anc ha)
  simp only [upE,hdN,hct,lla,lls]
  omega
theorem upE_step {l : List UInt8} {c c1 : Ce} (h : stepE l c = .go c1) : upE c1 + 2 * DE l c1.i ≤ upE c + 2 * DE l c.i:=by
 obtain ⟨ct,i,ns,g,cl,ps,bs,lv⟩:=c
 cases ct with
 | B =>
  change stepEB l _ = _ at h
  simp only [stepEB] at h
  split at h
  · cases h
  · exact upE_pm rfl h
 | P x =>
  change stepEP l _ x = _ at h
  simp only [stepEP] at h
  split at h
  · rename_i hb
    injection h with h;subst h
    have:=DE_next (nxt_one (.inl hb))
    simp only [upE,hdN,lla,lls];omega
  split at h
  · rename_i hb
    injection h with h;subst h
    have:=DE_next (nxt_one (.inr (.inl hb)))
    simp only [upE,hdN,lla,lls];omega
  split at h
  · rename_i hb
    injection h with h;subst h
    have:=DE_next (nxt_one (.inr (.inr (.inl hb))))
    simp only [upE,hdN,lla,lls];omega
  split at h
  · rename_i hb
    split at h
    · cases h
    · rename_i hv
      injection h with h;subst h
      have:=DE_next (nxt_iv hb hv)
      simp only [upE,hdN,lla,lls];omega
  · injection h with h;subst h
    simp only [upE,hdN,lla,lls];omega
 | L =>
  change stepEL l _ = _ at h
  simp only [stepEL] at h
  split at h
  · split at h <;> cases h
  · split at h
    · rename_i hb
      injection h with h;subst h
      have h2:=chn_le 2 ns ps
      have:=DE_next (nxt_one (.inr (.inr (.inr (.inr (.inr hb))))))
      simp only [upE,hdN,branE,lla,lls,List.length_nil];omega
    · cases lv with
      | nil => exact upE_pm rfl h
      | cons a lv =>
       obtain ⟨q,p,b⟩:=a
       simp only at h
       split at h
       · rename_i hb
         injection h with h;subst h
         have h2:=chn_le 2 ns ps
         have h3:=chn_len 3 (chn 2 ns ps).2 (ps:=bs ++ [(chn 2 ns ps).1]) (by simp)
         have:=DE_next (nxt_one (.inr (.inr (.inr (.inr (.inl hb))))))
         rw [lla,lls] at h3
         simp only [upE,hdN,altsE,branE,lla,lls,List.map_cons,List.sum_cons] at h3 ⊢
         omega
       · exact upE_pm rfl h
theorem upE_steps {l : List UInt8} {c c1 : Ce} (h : StepsE l c c1) : upE c1 + 2 * DE l c1.i ≤ upE c + 2 * DE l c.i:=by
 induction h with
 | refl => exact nlr _
 | head h1 _ ih => exact Nat.le_trans ih (upE_step h1)
theorem ext_many {l : List UInt8} {ns : List Nod} {g : Nat} (h : EndX l (.fin ns g)) : ns.length ≤ 2 * l.length + 1:=by
 rcases h with ⟨rfl,h⟩ | ⟨hne,c,hs,hst,-⟩
 · injection h with h1 h2
   subst h1
   simp
 · have h1:=upE_steps hs
   obtain ⟨e1,e2,e3,e4,e5⟩:=stepE_fin hst
   obtain ⟨ct,i,ns1,g1,cl,ps,bs,lv⟩:=c
   simp only at e1 e2 e3 e4 e5 h1
   subst e1 e3 e5
   have h0 : DE l 0 ≤ l.length:=depE_le l _ _
   have h2:=chn_le 2 ns1 ps
   have h3:=chn_len 3 (chn 2 ns1 ps).2 (ps:=bs ++ [(chn 2 ns1 ps).1]) (by simp)
   have h4:=congrArg List.length e4
   simp only [altsE,branE] at h4
   rw [lla,lls] at h3
   simp only [upE,ce0,hdN,List.map_nil,List.sum_nil,List.length_nil] at h1
   omega
def upB (c : Cf) : Nat:=c.ns.length + c.ps.length + hdN c.ct + (c.lv.map fun a => a.2.length).sum
theorem catS_le {ns : List Nod} {ps : List Int} {y : Int} {ns' : List Nod} (h : catS ns ps = some (y,ns')) : ns'.length ≤ ns.length + ps.length + 1:=by
 cases ps with
 | nil =>
  rw [catS_nil] at h
  split at h
  · simp only [Option.some.injEq,Prod.mk.injEq] at h
    rw [← h.2];simp
  · cases h
 | cons x r =>
  have:=catGo_is r x ns y ns' h
  have h2:=chnF_len 2 r x ns
  rw [this] at h2
  simp only [List.length_cons] at h2 ⊢
  omega
theorem atm_in {t : List UInt8} {i : Nat} : (∀ j nd,atomA t i = .nod j nd → i < t.length ∧ i < j) ∧ (atomA t i = .opn → i < t.length) ∧ (∀ q,atomA t i = .bak q → i < t.length):=by
 have h0 : t.length ≤ i → atomA t i = .bad 0:=fun h => by unfold atomA;rw [List.drop_eq_nil_of_le h];rfl
 refine ⟨fun j nd h => ?_,fun h => ?_,fun q h => ?_⟩
 · refine ⟨Nat.lt_of_not_le fun hk => (by rw [h0 hk] at h;cases h),?_⟩
   unfold atomA at h
   cases hd : t.drop i with
   | nil => rw [hd] at h;cases h
   | cons c r =>
    rw [hd] at h
    have hlt : i < t.length:=(drop_at hd).1
    simp only [atomR] at h
    split at h
    · cases r with
      | nil => cases h
      | cons x r =>
       simp only [escA] at h
       repeat' split at h
       all_goals first
        | (simp only [Am.nod.injEq] at h;omega)
        | cases h
    split at h
    · unfold brkA at h
      cases hr : readB t (i + 1) with
      | error e => rw [hr] at h;cases h
      | ok p =>
       obtain ⟨f,k⟩:=p
       rw [hr] at h
       simp only [Am.nod.injEq] at h
       have:=readB_size (by omega) hr
       omega
    repeat' split at h
    all_goals (simp only [Am.nod.injEq] at h;omega)
 · exact Nat.lt_of_not_le fun hk => by rw [h0 hk] at h;cases h
 · exact Nat.lt_of_not_le fun hk => by rw [h0 hk] at h;cases h
theorem upB_atm {t : List UInt8} {c c1 : Cf} (hct : hdN c.ct = 0) (h : stepA c (atomA t c.i) = .go c1) : upB c1 + 2 * (t.length - c1.i) ≤ upB c + 2 * (t.length - c.i):=by
 obtain ⟨ct,i,ns,g,cl,ps,lv⟩:=c
 simp only at hct
 have hin:=atm_in (t:=t) (i:=i)
 cases ha : atomA t i with
 | bad e => simp only [ha] at h;cases h
 | opn =>
  have:=hin.2.1 ha
  simp only [ha,stepA] at h
  split at h
  · injection h with h
    subst h
    simp only [upB,hdN,hct,List.map_cons,List.sum_cons,List.length_nil]
    omega
  · cases h
 | bak q =>
  have:=hin.2.2 q ha
  simp only [ha,stepA] at h
  split at h
  · obtain ⟨-,h⟩:=putS_go h
    injection h with h
    subst h
    simp only [upB,hdN,hct,lla,lls]
    omega
  · cases h
 | nod j n =>
  have:=hin.1 j n ha
  simp only [ha,stepA] at h
  obtain ⟨-,h⟩:=putS_go h
  injection h with h
  subst h
  simp only [upB,hdN,hct,lla,lls]
  omega
theorem upB_step {t : List UInt8} {c c1 : Cf} (h : step t c = .go c1) : upB c1 + 2 * (t.length - c1.i) ≤ upB c + 2 * (t.length - c.i):=by
 obtain ⟨ct,i,ns,g,cl,ps,lv⟩:=c
 have room : ∀ {p : List UInt8},bg p (t.drop i) = true → p ≠ [] → i + p.length ≤ t.length:=fun h hp => (bg_room h).resolve_left hp
 cases ct with
 | B =>
  change stepB t _ = _ at h
  simp only [stepB] at h
  split at h
  · rename_i hb
    have:=room hb (by simp)
    obtain ⟨-,h⟩:=putS_go h
    injection h with h;subst h
    simp only [List.length_cons,List.length_nil] at this
    simp only [upB,hdN,lla,lls,List.length_cons,List.length_nil];omega
  · injection h with h;subst h
    simp only [upB,hdN,List.length_nil];omega
 | P x =>
  change stepP t _ x = _ at h
  simp only [stepP] at h
  split at h
  · rename_i hb
    have:=room hb (by simp)
    obtain ⟨-,h⟩:=putS_go h
    injection h with h;subst h
    simp only [List.length_cons,List.length_nil] at this
    simp only [upB,hdN,lla,lls];omega
  split at h
  · rename_i hb
    have:=room hb (by simp)
    simp only [List.length_cons,List.length_nil] at this
    cases hv : ivl t i with
    | none => rw [hv] at h;cases h
    | some p =>
     obtain ⟨lo,hi,j⟩:=p
     rw [hv] at h
     simp only at h
     obtain ⟨-,h⟩:=putS_go h
     injection h with h;subst h
     unfold ivl at hv
     obtain ⟨⟨a,b,k⟩,h1,h2⟩:=Option.map_eq_some_iff.1 hv
     simp only [Prod.mk.injEq] at h2
     obtain ⟨rfl,rfl,rfl⟩:=h2
     have:=(ivB_ok h1).2.2
     simp only [upB,hdN,lla,lls];omega
  · injection h with h;subst h
    simp only [upB,hdN,lla,lls];omega
 | L =>
  change stepL t _ = _ at h
  cases lv with
  | nil =>
   simp only [stepL] at h
   split at h
   · split at h <;> cases h
   · exact upB_atm rfl h
  | cons a lv =>
   obtain ⟨q,p⟩:=a
   simp only [stepL] at h
   split at h
   · cases h
   split at h
   · rename_i hb
     have:=room hb (by simp)
     simp only [List.length_cons,List.length_nil] at this
     split at h
     · cases h
     · rename_i x ns2 hc
       have h2:=catS_le hc
       obtain ⟨-,h⟩:=putS_go h
       injection h with h;subst h
       simp only [upB,hdN,lla,lls,List.map_cons,List.sum_cons];omega
   · exact upB_atm rfl h
theorem upB_steps {t : List UInt8} {c c1 : Cf} (h : Steps t c c1) : upB c1 + 2 * (t.length - c1.i) ≤ upB c + 2 * (t.length - c.i):=by
 induction h with
 | refl => exact nlr _
 | head h1 _ ih => exact Nat.le_trans ih (upB_step h1)
theorem bas_many {l : List UInt8} {ns : List Nod} {g : Nat} (h : Ends l cf0 (.fin ns g)) : ns.length ≤ 2 * l.length + 1:=by
 obtain ⟨c,hs,hst,-⟩:=h
 have h1:=upB_steps hs
 obtain ⟨e1,e2,e3,⟨x,e4⟩,e5⟩:=step_fin hst
 have:=catS_le e4
 obtain ⟨ct,i,ns1,g1,cl,ps,lv⟩:=c
 simp only at e1 e2 e3 e4 e5 h1 this
 subst e1 e3 e5
 simp only [upB,cf0,hdN,List.map_nil,List.sum_nil,List.length_nil] at h1
 omega
theorem FinK.many {x : Bool} {l : List UInt8} {ns : List Nod} {g : Nat} (h : FinK x l ns g) : ns.length ≤ 2 * l.length + 1:=by
 cases x with
 | true => exact ext_many (show EndX l _ from h)
 | false => exact bas_many (show Ends l cf0 _ from h)
end Go.Proofs.YtonjnagcdnmcpaaGreatDoor
