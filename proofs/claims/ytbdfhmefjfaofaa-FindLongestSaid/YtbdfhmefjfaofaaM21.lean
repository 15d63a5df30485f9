/- Contracts and plain facts: M21. -/
import Derived.Test.YtbdfhmefjfaofaaM20
set_option linter.unusedVariables false
set_option linter.unusedSimpArgs false
set_option maxRecDepth 100000
set_option maxHeartbeats 32000000
namespace Go.Proofs.Ytbdfhmefjfaofaa
open Go.RowKit
section
variable {w w1 w' : World} {B S W : Nat} {An : Option Addr} {nn cn : Nat} {At : Option Addr} {nt ct : Nat} {ns : List Nod} {t : List UInt8} {g : Int} {a left : Nat} {v v' : Value} {xs : List Wt} {b : Option Spn} {pv : Value} {p : Pt} {l : List Tsk}
theorem takesNode_2 (m : Nat) (h : Sta w B S W An nn cn At nt ct ns t g a left v xs b pv p l) (hn : m < ns.length) (hk : (ndA ns (m : Int)).kind = 2) (hwk : WOK ns t g a (.node (m : Int) :: l,p)) :
    Calls Try.prog 55 #[.pointer (some ⟨S,0,none⟩),.pointer (some ⟨W,0,none⟩),.int .i64 (m : Int)] w (GoP w B S W An nn cn At nt ct ns t g a left v xs b ((nexts ns t (.node (m : Int)) p).map (ahead l))):=by
 rw [next_cat hk]
 have hmn : m < nn:=by have:=h.s.thru.nn_;omega
 obtain ⟨ad,bb,oo,rfl,hp,hbb,hr⟩:=h.s.thru.node' hn
 have c0:=h.c0
 have hlow:=lhi (fun w' (hb : Below B w w') => node_cells (range_below hr hb hbb))
 have hbase:=lhi h.s.thru.base
 have ⟨⟨d0,d1,d2⟩,d3,d4,d5⟩:=node_cells hr
 rw [hk] at d0
 have hh:=lhi h
 have p0:=h.p0
 have hP1:=lhi (mput_any W p pv 0 (ndA ns (m : Int)).b 0 0 w h.way h.row.ptr)
 have hP2:=lhi (fun (w2 : World) (pv2 : Value) (hO : Held w2 W 86 (wayC p pv2)) (hq : PtrV pv2) => mput_any W p pv2 0 (ndA ns (m : Int)).a 0 0 w2 hO hq)
 clear h hr hwk
 go_enter Try.func55,Try.ntmps55
 go_wp2_with (first
  | (have _h:=hS2;go_at_call 34;refine (hP2.out w2 pv2 hS2.out.way hS2.out.row.ptr).mono ?_;intro e w3 hm;obtain ⟨rfl,pv3,hS3',hc3⟩:=hS2.out.put (tk:=.node (ndA ns (m : Int)).a) ⟨rfl,rfl,rfl,rfl⟩ hm;have hS3:=lhi hS3';replace hc3:=lhi (hc2.out.trans hc3);clear hS3' hm)
  | (go_at_call 34;refine (hP1.out).mono ?_;intro e w2 hm;obtain ⟨rfl,pv2,hS2',hc2⟩:=hh.out.put (tk:=.node (ndA ns (m : Int)).b) ⟨rfl,rfl,rfl,rfl⟩ hm;have hS2:=lhi hS2';have hB2:=hh.out.low hc2;replace hc2:=lhi hc2;have ⟨⟨_,e1,e2⟩,_,_,_⟩:=hlow.out w2 hB2;clear hS2' hm hB2))
 go_ret
 exact hS3.out.stay hc3.out rfl
theorem takesNode_5 (m : Nat) (h : Sta w B S W An nn cn At nt ct ns t g a left v xs b pv p l) (hn : m < ns.length) (hk : (ndA ns (m : Int)).kind = 5) (hwk : WOK ns t g a (.node (m : Int) :: l,p)) :
    Calls Try.prog 55 #[.pointer (some ⟨S,0,none⟩),.pointer (some ⟨W,0,none⟩),.int .i64 (m : Int)] w (GoP w B S W An nn cn At nt ct ns t g a left v xs b ((nexts ns t (.node (m : Int)) p).map (ahead l))):=by
 rw [next_grp hk]
 have hmn : m < nn:=by have:=h.s.thru.nn_;omega
 obtain ⟨ad,bb,oo,rfl,hp,hbb,hr⟩:=h.s.thru.node' hn
 have c0:=h.c0
 have hlow:=lhi (fun w' (hb : Below B w w') => node_cells (range_below hr hb hbb))
 have hbase:=lhi h.s.thru.base
 have ⟨⟨d0,d1,d2⟩,d3,d4,d5⟩:=node_cells hr
 rw [hk] at d0
 have hh:=lhi h
 have p0:=h.p0
 have hP1:=lhi (mput_any W p pv 1 (m : Int) 0 (p.i : Int) w h.way h.row.ptr)
 have hP2:=lhi (fun (w2 : World) (pv2 : Value) (hO : Held w2 W 86 (wayC p pv2)) (hq : PtrV pv2) => mput_any W p pv2 0 (ndA ns (m : Int)).a 0 0 w2 hO hq)
 clear h hr hwk
 go_enter Try.func55,Try.ntmps55
 go_wp2_with (first
  | (have _h:=hS2;go_at_call 34;refine (hP2.out w2 pv2 hS2.out.way hS2.out.row.ptr).mono ?_;intro e w3 hm;obtain ⟨rfl,pv3,hS3',hc3⟩:=hS2.out.put (tk:=.node (ndA ns (m : Int)).a) ⟨rfl,rfl,rfl,rfl⟩ hm;have hS3:=lhi hS3';replace hc3:=lhi (hc2.out.trans hc3);clear hS3' hm)
  | (go_at_call 34;refine (hP1.out).mono ?_;intro e w2 hm;obtain ⟨rfl,pv2,hS2',hc2⟩:=hh.out.put (tk:=.gend (ndA ns (m : Int)).grp p.i) ⟨rfl,⟨by omega,by omega⟩,rfl,rfl,rfl⟩ hm;have hS2:=lhi hS2';have hB2:=hh.out.low hc2;replace hc2:=lhi hc2;have ⟨⟨_,e1,e2⟩,_,_,_⟩:=hlow.out w2 hB2;clear hS2' hm hB2))
 go_ret
 exact hS3.out.stay hc3.out rfl
end
theorem betG_at {a b : Spn} : ∀ (m g k : Nat),g ≤ k → k < g + m → (∀ j,g ≤ j → j < k → a j = b j) → a k ≠ b k → betG a b m g = betS (a k) (b k)
 | 0,g,k,h1,h2,_,_ => absurd h2 (by omega)
 | m + 1,g,k,h1,h2,h3,h4 => by
  rw [betG]
  by_cases e : g = k
  · subst e
    rw [if_neg h4]
  · rw [if_pos (h3 g (nlr _) (by omega))]
    exact betG_at m (g + 1) k (by omega) (by omega) (fun j j1 j2 => h3 j (by omega) j2) h4
theorem betG_all {a b : Spn} : ∀ (m g : Nat),(∀ j,g ≤ j → j < g + m → a j = b j) → betG a b m g = false
 | 0,g,_ => rfl
 | m + 1,g,h => by
  rw [betG,if_pos (h g (nlr _) (by omega))]
  exact betG_all m (g + 1) fun j j1 j2 => h j (by omega) (by omega)
theorem held_from {w : World} {B : Nat} {t : TypeId} {s : Spn} (h : Held w B t (hitC s)) {k : Nat} (hk : k < 10) : w.cell? ⟨B,k * 2,none⟩ = some (.int .i64 (s k).1) ∧ w.cell? ⟨B,k * 2 + 1,none⟩ = some (.int .i64 (s k).2):=by
 refine ⟨h.at_ ?_,h.at_ ?_⟩
 · rw [Nat.mul_comm];unfold hitC;rw [List.getElem?_toArray];exact hitL_from s hk
 · rw [Nat.mul_comm];unfold hitC;rw [List.getElem?_toArray];exact hitL_to s hk
theorem mbetter_any (a b : Spn) (w : World) : Calls Try.prog 56 #[hitV a,hitV b] w fun e w' => e = .returned (.bool (bet a b)) ∧ Below w.heap.size w w':=by
 have hA:=lhi ((held_new w 31 (hitC a)).alloc (.cells (hitC b) 31))
 have hB:=lhi (held_new2 w (.cells (hitC a) 31) 31 (hitC b))
 have hb0:=lhi (((Below.refl w.heap.size w).alloc (nlr _) (.cells (hitC a) 31)).alloc (by simp) (.cells (hitC b) 31))
 have hG:=lhi (fun w x y => betterGroup_any x y w)
 have hsz : ((w.alloc (.cells (hitC a) 31)).alloc (.cells (hitC b) 31)).heap.size = w.heap.size + 2:=by simp
 have ⟨a00,a01⟩:=held_from hA.out (k:=0) (by decide)
 have ⟨b00,b01⟩:=held_from hB.out (k:=0) (by decide)
 show Calls Try.prog 56 #[.agg (hitC a),.agg (hitC b)] w _
 have hgen:=lhi (fun wr (hb : Below (w.heap.size + 2) ((w.alloc (.cells (hitC a) 31)).alloc (.cells (hitC b) 31)) wr) k (hk : k < 10) => And.intro (held_from (hA.out.below hb (by omega)) hk) (held_from (hB.out.below hb (by omega)) hk))
 have hE:=span_neq
 have hEG:=span_guard
 unfold spnV at hE hEG
 clear hA hB
 generalize hca : hitC a = ca at *
 generalize hcb : hitC b = cb at *
 have hb00:=lhi (Below.refl (w.heap.size + 2) ((w.alloc (.cells ca 31)).alloc (.cells cb 31)))
 by_cases e0 : (a 0).2 = (b 0).2
 · have d0 : ((a 0).2 != (b 0).2) = false:=by rw [bne_eq_false_iff_eq];exact e0
   have hbet : bet a b = betG a b 9 1:=by unfold bet;rw [if_neg (by simpa using e0)]
   rw [hbet]
   replace e0:=lhi e0
   clear hbet
   generalize hr : betG a b 9 1 = r
   replace hr:=lhi hr
   go_enter Try.func56,Try.ntmps56
   go_wp2
   generalize ((w.alloc (.cells ca 31)).alloc (.cells cb 31)) = w2 at *
   go_loopw [5] (fun i wr => ∃ k : Nat,1 ≤ k ∧ k ≤ 10 ∧ i = .int .i64 (k : Int) ∧ Hid (∀ j,1 ≤ j → j < k → a j = b j) ∧ Hid (Below (w.heap.size + 2) w2 wr)) (fun i _ => 10 - (intOf i).toNat)
   case atStart => exact ⟨1,by decide,by decide,rfl,lhi fun j h1 h2 => absurd h2 (by omega),hb00⟩
   case round =>
    obtain ⟨k,hk1,hk,rfl,hall,hbr⟩:=hrel
    by_cases hlt : k < 10
    · have ⟨⟨p0,p1⟩,q0,q1⟩:=hgen.out wr hbr.out k hlt
      have hEk:=fun w => hE w (a k) (b k)
      have hGk:=lhi (fun w => hG.out w (a k) (b k))
      have hEGk:=fun w op p q => hEG w op p q (a k) (b k)
      unfold spnV at hGk
      have hgen2:=lhi (fun w3 (hb : Below (w.heap.size + 2) w2 w3) => let h:=hgen.out w3 hb k hlt;(⟨h.1.1,h.1.2,h.2.1,h.2.2⟩ : w3.cell? ⟨w.heap.size,k * 2,none⟩ = some (.int .i64 (a k).1) ∧ w3.cell? ⟨w.heap.size,k * 2 + 1,none⟩ = some (.int .i64 (a k).2) ∧ w3.cell? ⟨w.heap.size + 1,k * 2,none⟩ = some (.int .i64 (b k).1) ∧ w3.cell? ⟨w.heap.size + 1,k * 2 + 1,none⟩ = some (.int .i64 (b k).2)))
      have hAt:=lhi (fun (hne : a k ≠ b k) => betG_at 9 1 k hk1 (by omega) hall.out hne)
      have hNx:=lhi (fun (he : a k = b k) j (j1 : 1 ≤ j) (j2 : j < k + 1) => show a j = b j by
       rcases Nat.lt_or_ge j k with h | h
       · exact hall.out j j1 h
       · obtain rfl : j = k:=by omega
         exact he)
      have k0 : (0 : Int) ≤ (k : Int):=by omega
      have k10 : (k : Int) < 10:=by omega
      clear hE hEG hG hgen hall a00 a01 b00 b01 d0
      have hbf2:=lhi (fun w3 (hb : Below (w.heap.size + 2) w2 w3) => show Below w.heap.size w w3 from hb0.out.trans (hb.mono (by omega)))
      by_cases he : a k = b k
      · have dk : decide (a k = b k) = true:=decide_eq_true he
        rw [dk] at hEk
        have hNx2:=lhi (hNx.out he)
        clear hAt hNx dk
        replace he:=lhi he
        go_wp2
        go_quiet (fail)
        go_wp2
        go_roundw
        case rel => exact ⟨k + 1,by omega,by omega,by go_num,hNx2,by first | exact hbr | exact lhi (below_drewN hbr.out _) | exact lhi (hbr.out.drew)⟩
        case measure => simp [intOf];omega
      · have dk : decide (a k = b k) = false:=decide_eq_false he
        rw [dk] at hEk
        have hA2:=lhi (hAt.out he)
        clear hAt hNx dk
        replace he:=lhi he
        go_wp2
        go_quiet (fail)
        go_wp2
        go_region_held3 (fun w' => w'.cell? ⟨w.heap.size,k * 2,none⟩ = some (.int .i64 (a k).1) ∧ w'.cell? ⟨w.heap.size,k * 2 + 1,none⟩ = some (.int .i64 (a k).2) ∧ w'.cell? ⟨w.heap.size + 1,k * 2,none⟩ = some (.int .i64 (b k).1) ∧ w'.cell? ⟨w.heap.size + 1,k * 2 + 1,none⟩ = some (.int .i64 (b k).2))
         (first | with_reducible exact hK3.out | go_keep)
         (first
         | (go_at_call 59;refine (hGk.out _).mono ?_;rintro e w3 ⟨rfl,hb3⟩;have hbx:=lhi (hbr.out.trans ((below_drewN (Below.refl _ wr) _).trans hb3 |>.mono (Nat.le_trans (show w.heap.size + 2 ≤ w2.heap.size by omega) hbr.out.size)));have hy:=hgen2.out w3 hbx.out;have hK3:=lhi hy;have hF3:=lhi (hbf2.out w3 hbx.out);clear hy hb3))
        go_wp2
        go_ret
        exact ⟨ret_bool (hA2.out.symm.trans hr.out),by first | exact hF3.out | exact below_drewN hF3.out _⟩
    · obtain rfl : k = 10:=by omega
      have hz:=lhi (betG_all (a:=a) (b:=b) 9 1 fun j j1 j2 => hall.out j j1 (by omega))
      have hbf:=lhi (show Below w.heap.size w wr from hb0.out.trans (hbr.out.mono (by omega)))
      clear hE hEG hG hgen hall a00 a01 b00 b01 d0
      go_wp2
      go_ret
      exact ⟨ret_bool (hz.out.symm.trans hr.out),hbf.out⟩
 · have d0 : ((a 0).2 != (b 0).2) = true:=by rw [bne_iff_ne];exact e0
   have hbet : bet a b = decide ((b 0).2 < (a 0).2):=by unfold bet;rw [if_pos (by simpa using e0)]
   rw [hbet]
   replace e0:=lhi e0
   clear hbet hE hEG hG hgen
   go_enter Try.func56,Try.ntmps56
   go_wp2
   go_ret
   exact ⟨rfl,hb0.out⟩
def spTo (k : Nat) : Spn:=fun g => if g < k then (-1,-1) else (0,0)
theorem spTo_end : hitC (spTo 10) = hitC spNo:=rfl
theorem spTo_next (k : Nat) : setSp (spTo k) k (-1,-1) = spTo (k + 1):=by
 funext g
 unfold setSp spTo
 by_cases h : g = k
 · subst h;simp
 · rw [if_neg h]
   by_cases h2 : g < k
   · rw [if_pos h2,if_pos (by omega)]
   · rw [if_neg h2,if_neg (by omega)]
theorem hitC_set (s : Spn) {g : Nat} (h : g < 10) (x : Int × Int) : ((hitC s).setIfInBounds (g * 2) (.int .i64 x.1)).setIfInBounds (g * 2 + 1) (.int .i64 x.2) = hitC (setSp s g x):=by
 unfold hitC
 rw [hitL_set s h,Nat.mul_comm]
 simp
theorem size_spans : (Try.prog.info? 82).map (·.size) = some 20:=by kernel_rfl
theorem hit_cells (s : Spn) : (hitC s).all (·.oneCell') = true:=all_oneCell_toArray (hit_one s)
theorem Held.span {w : World} {B : Nat} {t : TypeId} {s : Spn} (h : Held w B t (hitC s)) {k : Nat} (hk : k < 10) (x : Int × Int) : Held ((w.setCell ⟨B,k * 2,none⟩ (.int .i64 x.1)).setCell ⟨B,k * 2 + 1,none⟩ (.int .i64 x.2)) B t (hitC (setSp s k x)):=by
 have:=(h.put (k * 2) (.int .i64 x.1)).put (k * 2 + 1) (.int .i64 x.2)
 rwa [hitC_set s hk x] at this
def RelNs (w : World) (i : Value) (wr : World) : Prop :=
 ∃ k : Nat,k ≤ 10 ∧ i = .int .i64 (k : Int) ∧ Held wr w.heap.size 82 (hitC sp00) ∧ Held wr (w.heap.size + 1) 82 (hitC (spTo k)) ∧ Below w.heap.size w wr
theorem RelNs.mk {w : World} {i : Value} {wr : World} (h : ∃ k : Nat,k ≤ 10 ∧ i = .int .i64 (k : Int) ∧ Held wr w.heap.size 82 (hitC sp00) ∧ Held wr (w.heap.size + 1) 82 (hitC (spTo k)) ∧ Below w.heap.size w wr) : RelNs w i wr:=h
theorem span_there {w : World} {B : Nat} {t : TypeId} {s : Spn} (h : Held w B t (hitC s)) {k : Nat} (hk : k < 10) : w.cell? ⟨B,k * 2,none⟩ = some (.int .i64 (s k).1) ∧ w.cell? ⟨B,k * 2 + 1,none⟩ = some (.int .i64 (s k).2):=by
 refine ⟨h.at_ ?_,h.at_ ?_⟩
 · rw [Nat.mul_comm];unfold hitC;rw [List.getElem?_toArray];exact hitL_from s hk
 · rw [Nat.mul_comm];unfold hitC;rw [List.getElem?_toArray];exact hitL_to s hk
theorem mnoSpans_any (w : World) : Calls Try.prog 33 #[] w fun e w' => e = .returned (hitV spNo) ∧ Below w.heap.size w w':=by
 go_enter Try.func33,Try.ntmps33
 go_wp2
 go_loopw [3] (RelNs w) (fun i _ => 10 - (intOf i).toNat)
 case atStart => exact RelNs.mk ⟨0,by omega,rfl,(held_new w 82 (hitC sp00)).alloc _,held_new2 w _ 82 (hitC (spTo 0)),((Below.refl _ _).alloc (nlr _) _).alloc (by simp) _⟩
 case round =>
  obtain ⟨k,hk,rfl,h0,h1,hb⟩:=hrel
  by_cases hlt : k < 10
  · have ⟨c0,c1⟩:=span_there h1 hlt
    have t0:=h1.thawed (k * 2)
    have t1:=h1.thawed (k * 2 + 1)
    have h1':=lhi (h1.span hlt (-1,-1))
    have h0':=lhi ((h0.far (a:=⟨w.heap.size + 1,k * 2,none⟩) (by show w.heap.size ≠ w.heap.size + 1;omega) (.int .i64 (-1))).far (a:=⟨w.heap.size + 1,k * 2 + 1,none⟩) (by show w.heap.size ≠ w.heap.size + 1;omega) (.int .i64 (-1)))
    have hb':=lhi ((hb.setCell (p:=⟨w.heap.size + 1,k * 2,none⟩) (Nat.le_succ _) (.int .i64 (-1))).setCell (p:=⟨w.heap.size + 1,k * 2 + 1,none⟩) (Nat.le_succ _) (.int .i64 (-1)))
    rw [spTo_next] at h1'
    have k0 : (0 : Int) ≤ (k : Int):=by omega
    have k1 : (k : Int) < 10:=by omega
    clear h0 h1 hb
    go_wp2
    go_roundw
    case rel => exact RelNs.mk ⟨k + 1,by omega,by go_num,h0'.out,h1'.out,hb'.out⟩
    case measure => simp [intOf];omega
  · obtain rfl : k = 10:=by omega
    rw [spTo_end] at h1
    have h0':=lhi h0
    have h1':=lhi h1
    have hb':=lhi hb
    clear h0 h1 hb
    go_wp2_with (first
     | (refine wpList_load_row rfl 82 (.tmp 1) rfl (w.heap.size + 1) rfl 82 _ (0,0) _ h1'.out Try.underlying82 rfl (by rw [hitC_size];exact size_spans) ?_)
     | (refine wpList_store_row rfl 82 (.tmp 0) (.tmp 10) rfl w.heap.size (hitC spNo) rfl rfl 82 _ h0'.out (by rw [hitC_size];exact size_spans) (by rw [hitC_size,hitC_size]) (hit_cells _) ?_))
    exact bodyPost_ret (v:=hitV spNo) (results_cell_row Try.results33 _ _ w.heap.size 82 (hitC spNo) (0,0) _ rfl (h0'.out.row _) Try.underlying82 rfl (by rw [hitC_size];exact size_spans)) rfl ⟨rfl,below_row hb'.out (nlr _) _⟩
end Go.Proofs.Ytbdfhmefjfaofaa
