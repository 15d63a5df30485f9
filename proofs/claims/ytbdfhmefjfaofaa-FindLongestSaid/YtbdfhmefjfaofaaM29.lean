/- Contracts and plain facts: M29. -/
import Derived.Test.YtbdfhmefjfaofaaM28
import Derived.Deep.CutRange
import Derived.Deep.CutBlock
set_option linter.unusedVariables false
set_option linter.unusedSimpArgs false
set_option maxRecDepth 100000
set_option maxHeartbeats 32000000
namespace Go.Proofs.Ytbdfhmefjfaofaa
open Go.RowKit
section
variable {w w1 w' wr : World} {S : Nat} {An : Option Addr} {nn cn : Nat} {At : Option Addr} {nt ct : Nat} {ns : List Nod} {t : List UInt8} {g : Int} {a M left c : Nat} {v : Value} {xs ys : List Wt} {hs : List Pt} {x : Wt}
theorem Below.in {B : Nat} {w0 w1 w2 : World} (h : Below B w0 w1) (hb : Below w1.heap.size w1 w2) (hB : B ≤ w1.heap.size) : Below B w0 w2:=h.trans (hb.mono hB)
theorem RelA.empty (h : RelA w S S An nn cn At nt ct ns t g a M v [] left c hs wr) : AllP w S An nn cn At nt ct ns t a M (.returned (.bool true)) wr:=by
 have hl:=h.le
 have n1:=h.s.thru.n1
 have hn:=h.s.thru.nn_
 have ht:=h.eq.told (M:=(M : Int)) h.s.thru.rt (by omega) (by omega) (by omega)
 rw [show (M : Int) - (c : Int) = (left : Int) by omega] at ht
 exact ⟨h.gr,.inr ⟨_,left,v,rfl,h.s.held,ht⟩⟩
theorem RelA.take {gg cap : Nat} (h : RelA w S S An nn cn At nt ct ns t g a M (.slice (some ⟨gg,0,none⟩) (ys.length + 1) cap) (ys ++ [x]) left c hs wr) {W : Nat} (hW : wr.heap.size ≤ W) {w4 : World} (hb : Below wr.heap.size wr w4) (hx : Held w4 W 86 (wayC x.2.1 x.1)) :
    Sta (w4.setCell ⟨S,4,none⟩ (.slice (some ⟨gg,0,none⟩) ys.length cap)) S S W An nn cn At nt ct ns t g a left (.slice (some ⟨gg,0,none⟩) ys.length cap) ys (bestF none (hs.map (hitS a))) x.1 x.2.1 x.2.2 ∧ Below S w (w4.setCell ⟨S,4,none⟩ (.slice (some ⟨gg,0,none⟩) ys.length cap)):=by
 have h4:=h.s.keep hb
 have hg:=grown_cell w4 S 4 (.slice (some ⟨gg,0,none⟩) ys.length cap)
 have hown:=h4.own
 rw [wtsL_append,lla] at hown
 have hp:=ownsRow_pop (wtsL_len ys) hown
 have hpS : (Value.slice (some ⟨gg,0,none⟩) ys.length cap).ownBlock ≠ some S:=h4.held.not_own hp (by decide)
 have hW2 : (Value.slice (some ⟨gg,0,none⟩) ys.length cap).ownBlock ≠ some W:=fun e => by
  have e : gg = W:=Option.some.inj e
  have:=(h.s.own.lt gg rfl).2
  omega
 have hSl:=h.s.held.lt
 have hcell : ∀ b cs,Held w4 b 107 cs → Held (w4.setCell ⟨S,4,none⟩ (.slice (some ⟨gg,0,none⟩) ys.length cap)) b 107 cs:=fun b cs hc => hc.grown hg (fun e => hc.apart h4.held (by decide) (Option.some.inj e))
 have hfw:=h.few
 rw [lla] at hfw
 have hbase:=h.s.thru.base
 have hB : Below S w (w4.setCell ⟨S,4,none⟩ (.slice (some ⟨gg,0,none⟩) ys.length cap)):=(h.gr.trans (hb.mono (by omega))).setCell (p:=⟨S,4,none⟩) (nlr _) _
 refine ⟨⟨⟨h4.held.put 4 _,hp.kept hg (.inr hpS),fun y hy => (h4.rows y (List.mem_append_left _ hy)).keep hcell,h4.thru.below ((Below.refl S w4).setCell (p:=⟨S,4,none⟩) (nlr _) _),nlr _,by simp at hfw;omega⟩,?_,(h4.rows x (by simp)).keep hcell,hW2,by omega⟩,hB⟩
 exact hx.far (a:=⟨S,4,none⟩) (by show W ≠ S;omega) _
theorem RelA.next {gg cap : Nat} (h : RelA w S S An nn cn At nt ct ns t g a M (.slice (some ⟨gg,0,none⟩) (ys.length + 1) cap) (ys ++ [x]) left c hs wr) {W : Nat} {w5 w6 : World} (hS5 : Sta w5 S S W An nn cn At nt ct ns t g a left (.slice (some ⟨gg,0,none⟩) ys.length cap) ys (bestF none (hs.map (hitS a))) x.1 x.2.1 x.2.2) (hB5 : Below S w w5)
    (hE : EndP w5 S S W An nn cn At nt ct ns t g a left (.slice (some ⟨gg,0,none⟩) ys.length cap) ys (bestF none (hs.map (hitS a))) (x.2.2,x.2.1) (.returned (.bool true)) w6) : ∃ v' xs' left' c' hs',RelA w S S An nn cn At nt ct ns t g a M v' xs' left' c' hs' w6 ∧ 2 * left' + xs'.length < 2 * left + (ys.length + 1):=by
 cases hE with
 | @done _ v' xs' left' c' hs' hs1 hc he hl hk hf =>
  have hle:=h.le
  have hfw:=h.few
  rw [lla] at hfw
  simp only [List.length_cons,List.length_nil] at hfw
  have hperm : ((ys ++ [x]).map wyW).Perm ((x.2.2,x.2.1) :: ys.map wyW):=by
   rw [List.map_append]
   exact List.perm_append_comm
  have he2:=(h.eq.trans (Eqv.perm hperm)).trans he
  refine ⟨v',xs',left',c + 0 + c',hs ++ [] ++ hs',⟨?_,hB5.trans (hS5.low hc),he2,by omega,hk,by omega⟩,by omega⟩
  rw [List.append_nil,List.map_append,bestF_app]
  exact hs1
theorem RelA.dry {gg cap : Nat} (h : RelA w S S An nn cn At nt ct ns t g a M (.slice (some ⟨gg,0,none⟩) (ys.length + 1) cap) (ys ++ [x]) left c hs wr) {W : Nat} {w5 w6 : World} (hS5 : Sta w5 S S W An nn cn At nt ct ns t g a left (.slice (some ⟨gg,0,none⟩) ys.length cap) ys (bestF none (hs.map (hitS a))) x.1 x.2.1 x.2.2) (hB5 : Below S w w5)
    (hE : EndP w5 S S W An nn cn At nt ct ns t g a left (.slice (some ⟨gg,0,none⟩) ys.length cap) ys (bestF none (hs.map (hitS a))) (x.2.2,x.2.1) (.returned (.bool false)) w6) : AllP w S An nn cn At nt ct ns t a M (.returned (.bool false)) w6:=by
 cases hE with
 | @dry _ v' ho hc =>
  have hle:=h.le
  have hperm : ((ys ++ [x]).map wyW).Perm ((x.2.2,x.2.1) :: ys.map wyW):=by
   rw [List.map_append]
   exact List.perm_append_comm
  have he2:=h.eq.trans (Eqv.perm hperm)
  exact ⟨hB5.trans (hS5.low hc),.inl ⟨rfl,.over (he2.over (by rw [show (M : Int) - ((c + 0 : Nat) : Int) = (left : Int) by omega];exact ho))⟩⟩
def RelF (w : World) (a : Nat) (s3 : Value) (wx : World) : Prop:=∃ O,s3 = .pointer (some ⟨O,0,none⟩) ∧ Held wx O 86 (wayC (pt0 a) (.pointer none)) ∧ Below w.heap.size w wx ∧ w.heap.size ≤ O
def RelA1 (w : World) (S : Nat) (An : Option Addr) (nn cn : Nat) (At : Option Addr) (nt ct : Nat) (ns : List Nod) (t : List UInt8) (g : Int) (a M : Nat) (wx : World) : Prop:=∃ v xs left c hs,RelA w S S An nn cn At nt ct ns t g a M v xs left c hs wx
theorem EndP.ret {B W : Nat} {b : Option Spn} {y : Wy} {e : Ending} (h : EndP w B S W An nn cn At nt ct ns t g a left v xs b y e w') : ∃ r : Bool,e = .returned (.bool r):=by
 cases h with
 | dry => exact ⟨false,rfl⟩
 | done => exact ⟨true,rfl⟩
theorem snoc_cases (l : List Wt) : l = [] ∨ ∃ ys x,l = ys ++ [x]:=by
 cases h : l.reverse with
 | nil => left;simpa using h
 | cons x r => right;exact ⟨r.reverse,x,by rw [← List.reverse_reverse l,h];simp⟩
theorem all_any (hS : Held w S 57 (srchC An nn cn At nt ct a M (.slice none 0 0) none)) (ht : Thru w S An nn cn At nt ct ns t g) (ha : a ≤ t.length) (hM : M ≤ 999999) :
    Calls Try.prog 22 #[.pointer (some ⟨S,0,none⟩)] w (AllP w S An nn cn At nt ct ns t a M):=by
 have hSl:=hS.lt
 have c2 : w.cell? ⟨S,2,none⟩ = some (.int .i64 (a : Int)):=hS.at_ rfl
 have hN0:=lhi (fun w => mnoSpans_any w)
 have hQ0:=lhi (show SA1 S a w w.drew from ⟨(Below.refl _ _).drew,c2⟩)
 obtain ⟨i0,hi0,hq0,hq1,hq2⟩:=info_parts way_infoz
 have hI2:=lhi hq2
 have hh:=lhi hS
 have hth:=lhi ht
 have hnn:=ht.nn_
 have hn1:=ht.n1
 have hnk:=ht.nk
 have hM':=lhi hM
 have ha':=lhi ha
 have hwn : IntKind.i64.wrap ((nn : Int) - 1) = (nn : Int) - 1:=IntWalk.i64_in _ (by omega)
 replace hnn:=lhi hnn
 clear hS ht hq2 hM ha
 go_enter Try.func22,Try.ntmps22
 go_upto_region 1 with (fail)
 go_cut [3] from 6 to 11 (fun s3 wx => RelF w a s3 wx)
 case first =>
  refine wp_region_held_drew (S:=SA1 S a w) (by kernel_rfl) hQ0.out (fun hS => ?_)
  refine wpAnyH_take (i:=0) (v:=?_) rfl (by kernel_rfl) (by kernel_rfl) (by kernel_rfl) (fun _ _ _ h => h) (Or.inl ⟨by rfl,?_⟩) hS ?_
  rotate_left
  · (intro w' hS';go_simp;try with_reducible rfl)
  (try simp only [Act.put,List.getElem_toArray,List.getElem_cons_zero,List.getElem_cons_succ,List.setIfInBounds_toArray,List.set_cons_zero,List.set_cons_succ])
  refine wpAnyH_take (i:=1) (v:=?_) rfl (by kernel_rfl) (by kernel_rfl) (by kernel_rfl) (fun _ _ _ h => h) (Or.inl ⟨by rfl,?_⟩) hS ?_
  rotate_left
  · (intro w' hS';go_simp;try with_reducible rfl)
  (try simp only [Act.put,List.getElem_toArray,List.getElem_cons_zero,List.getElem_cons_succ,List.setIfInBounds_toArray,List.set_cons_zero,List.set_cons_succ])
  refine wpAnyH_take (i:=2) (v:=?_) rfl (by kernel_rfl) (by kernel_rfl) (by kernel_rfl) (fun _ _ _ h => h) (Or.inl ⟨by rfl,?_⟩) hS ?_
  rotate_left
  · (intro w' hS';go_simp;try with_reducible rfl)
  (try simp only [Act.put,List.getElem_toArray,List.getElem_cons_zero,List.getElem_cons_succ,List.setIfInBounds_toArray,List.set_cons_zero,List.set_cons_succ])
  refine wpAnyH_take (i:=3) (v:=?_) rfl (by kernel_rfl) (by kernel_rfl) (by kernel_rfl) (fun _ _ _ h => h) (Or.inl ⟨by rfl,?_⟩) hS ?_
  rotate_left
  · (intro w' hS';have hc:=hS'.2;go_simp;try with_reducible rfl)
  (try simp only [Act.put,List.getElem_toArray,List.getElem_cons_zero,List.getElem_cons_succ,List.setIfInBounds_toArray,List.set_cons_zero,List.set_cons_succ])
  refine wpAnyH_ready (rs:=[4,6]) (by kernel_rfl) (by simp) ?_
  refine AllReadyH.cons rfl (fun K hK => ?_) (AllReadyH.cons rfl (fun K hK => ?_) AllReadyH.nil)
  · go_simp
    refine (hN0.out _).mono ?_
    rintro e w5 ⟨rfl,hb5'⟩
    have hb5:=hS.1.trans (hb5'.mono hS.1.size)
    have hS5 : SA1 S a w w5:=⟨hb5,(hb5.cell (p:=⟨S,2,none⟩) hSl).trans c2⟩
    go_simp
    refine hK.out _ _ hS5 (fun _ => ?_)
    clear hK K
    (try simp only [Act.put,List.getElem_toArray,List.getElem_cons_zero,List.getElem_cons_succ,List.setIfInBounds_toArray,List.set_cons_zero,List.set_cons_succ])
    refine wpAnyH_take (i:=5) (v:=.agg (wayC (pt0 a) (.pointer none))) rfl (by kernel_rfl) (by kernel_rfl) (by kernel_rfl) (fun _ _ _ h => h) (yields_way0 a (.tmp 9) (.tmp 10) rfl rfl rfl rfl) hS5 ?_
    (try simp only [Act.put,List.getElem_toArray,List.getElem_cons_zero,List.getElem_cons_succ,List.setIfInBounds_toArray,List.set_cons_zero,List.set_cons_succ])
    refine wpAnyH_ready (rs:=[6]) (by kernel_rfl) (by simp) ?_
    refine AllReadyH.cons rfl (fun K hK => ?_) AllReadyH.nil
    go_simp
    have hBz : Below w.heap.size w (w5.alloc (.cells #[.int .i64 0,.int .i64 0,.int .i64 0,.int .i64 0,.int .i64 0,.int .i64 0,.int .i64 0,.int .i64 0,.int .i64 0,.int .i64 0,.int .i64 0,.int .i64 0,.int .i64 0,.int .i64 0,.int .i64 0,.int .i64 0,.int .i64 0,.int .i64 0,.int .i64 0,.int .i64 0,.int .i64 0,.pointer none] 86)):=hb5.alloc hb5.size _
    refine hK.out _ _ ⟨hBz,(hBz.cell (p:=⟨S,2,none⟩) hSl).trans c2⟩ (fun _ => ?_)
    clear hK K
    (try simp only [Act.put,List.getElem_toArray,List.getElem_cons_zero,List.getElem_cons_succ,List.setIfInBounds_toArray,List.set_cons_zero,List.set_cons_succ])
    have hge:=hb5.size
    refine wpAnyH_ready (rs:=[7]) (by kernel_rfl) (by simp) ?_
    refine AllReadyH.cons rfl (fun K hK => ?_) AllReadyH.nil
    refine step_store_way (.tmp 3) (.tmp 11) rfl rfl (w5.heap.size) rfl (wayC (pt0 a) (.pointer none)) rfl #[.int .i64 0,.int .i64 0,.int .i64 0,.int .i64 0,.int .i64 0,.int .i64 0,.int .i64 0,.int .i64 0,.int .i64 0,.int .i64 0,.int .i64 0,.int .i64 0,.int .i64 0,.int .i64 0,.int .i64 0,.int .i64 0,.int .i64 0,.int .i64 0,.int .i64 0,.int .i64 0,.int .i64 0,.pointer none] (held_new w5 86 #[.int .i64 0,.int .i64 0,.int .i64 0,.int .i64 0,.int .i64 0,.int .i64 0,.int .i64 0,.int .i64 0,.int .i64 0,.int .i64 0,.int .i64 0,.int .i64 0,.int .i64 0,.int .i64 0,.int .i64 0,.int .i64 0,.int .i64 0,.int .i64 0,.int .i64 0,.int .i64 0,.int .i64 0,.pointer none]) (way_hold _ _) rfl (way_cells ⟨none,rfl⟩) ?_
    have hBx:=below_row hBz hge (wayC (pt0 a) (.pointer none))
    refine hK.out _ _ ⟨hBx,(hBx.cell (p:=⟨S,2,none⟩) hSl).trans c2⟩ (fun _ => ?_)
    clear hK K
    (try simp only [Act.put,List.getElem_toArray,List.getElem_cons_zero,List.getElem_cons_succ,List.setIfInBounds_toArray,List.set_cons_zero,List.set_cons_succ])
    refine wpAnyH_done (by kernel_rfl) ?_ _
    go_wp2_with fail
    go_meet
    exact ⟨_,rfl,Held.row (held_new w5 86 #[.int .i64 0,.int .i64 0,.int .i64 0,.int .i64 0,.int .i64 0,.int .i64 0,.int .i64 0,.int .i64 0,.int .i64 0,.int .i64 0,.int .i64 0,.int .i64 0,.int .i64 0,.int .i64 0,.int .i64 0,.int .i64 0,.int .i64 0,.int .i64 0,.int .i64 0,.int .i64 0,.int .i64 0,.pointer none]) _,hBx,hge⟩
  · go_simp
    have hBz : Below w.heap.size w (w.drew.alloc (.cells #[.int .i64 0,.int .i64 0,.int .i64 0,.int .i64 0,.int .i64 0,.int .i64 0,.int .i64 0,.int .i64 0,.int .i64 0,.int .i64 0,.int .i64 0,.int .i64 0,.int .i64 0,.int .i64 0,.int .i64 0,.int .i64 0,.int .i64 0,.int .i64 0,.int .i64 0,.int .i64 0,.int .i64 0,.pointer none] 86)):=((Below.refl w.heap.size w).drew).alloc (nlr _) _
    have hS4 : SA1 S a w (w.drew.alloc (.cells #[.int .i64 0,.int .i64 0,.int .i64 0,.int .i64 0,.int .i64 0,.int .i64 0,.int .i64 0,.int .i64 0,.int .i64 0,.int .i64 0,.int .i64 0,.int .i64 0,.int .i64 0,.int .i64 0,.int .i64 0,.int .i64 0,.int .i64 0,.int .i64 0,.int .i64 0,.int .i64 0,.int .i64 0,.pointer none] 86)):=⟨hBz,(hBz.cell (p:=⟨S,2,none⟩) hSl).trans c2⟩
    refine hK.out _ _ hS4 (fun _ => ?_)
    clear hK K
    (try simp only [Act.put,List.getElem_toArray,List.getElem_cons_zero,List.getElem_cons_succ,List.setIfInBounds_toArray,List.set_cons_zero,List.set_cons_succ])
    refine wpAnyH_ready (rs:=[4]) (by kernel_rfl) (by simp) ?_
    refine AllReadyH.cons rfl (fun K hK => ?_) AllReadyH.nil
    go_simp
    refine (hN0.out _).mono ?_
    rintro e w5 ⟨rfl,hb5'⟩
    have hb5:=hS4.1.trans (hb5'.mono hS4.1.size)
    have hS5 : SA1 S a w w5:=⟨hb5,(hb5.cell (p:=⟨S,2,none⟩) hSl).trans c2⟩
    go_simp
    refine hK.out _ _ hS5 (fun _ => ?_)
    clear hK K
    (try simp only [Act.put,List.getElem_toArray,List.getElem_cons_zero,List.getElem_cons_succ,List.setIfInBounds_toArray,List.set_cons_zero,List.set_cons_succ])
    refine wpAnyH_take (i:=5) (v:=.agg (wayC (pt0 a) (.pointer none))) rfl (by kernel_rfl) (by kernel_rfl) (by kernel_rfl) (fun _ _ _ h => h) (yields_way0 a (.tmp 9) (.tmp 10) rfl rfl rfl rfl) hS5 ?_
    (try simp only [Act.put,List.getElem_toArray,List.getElem_cons_zero,List.getElem_cons_succ,List.setIfInBounds_toArray,List.set_cons_zero,List.set_cons_succ])
    have hge : w.heap.size ≤ w.heap.size:=nlr _
    have hz5 : Held w5 w.heap.size 86 #[.int .i64 0,.int .i64 0,.int .i64 0,.int .i64 0,.int .i64 0,.int .i64 0,.int .i64 0,.int .i64 0,.int .i64 0,.int .i64 0,.int .i64 0,.int .i64 0,.int .i64 0,.int .i64 0,.int .i64 0,.int .i64 0,.int .i64 0,.int .i64 0,.int .i64 0,.int .i64 0,.int .i64 0,.pointer none]:=(held_new w.drew 86 #[.int .i64 0,.int .i64 0,.int .i64 0,.int .i64 0,.int .i64 0,.int .i64 0,.int .i64 0,.int .i64 0,.int .i64 0,.int .i64 0,.int .i64 0,.int .i64 0,.int .i64 0,.int .i64 0,.int .i64 0,.int .i64 0,.int .i64 0,.int .i64 0,.int .i64 0,.int .i64 0,.int .i64 0,.pointer none]).keep hb5'
    refine wpAnyH_ready (rs:=[7]) (by kernel_rfl) (by simp) ?_
    refine AllReadyH.cons rfl (fun K hK => ?_) AllReadyH.nil
    refine step_store_way (.tmp 3) (.tmp 11) rfl rfl (w.heap.size) rfl (wayC (pt0 a) (.pointer none)) rfl #[.int .i64 0,.int .i64 0,.int .i64 0,.int .i64 0,.int .i64 0,.int .i64 0,.int .i64 0,.int .i64 0,.int .i64 0,.int .i64 0,.int .i64 0,.int .i64 0,.int .i64 0,.int .i64 0,.int .i64 0,.int .i64 0,.int .i64 0,.int .i64 0,.int .i64 0,.int .i64 0,.int .i64 0,.pointer none] hz5 (way_hold _ _) rfl (way_cells ⟨none,rfl⟩) ?_
    have hBx:=below_row hb5 hge (wayC (pt0 a) (.pointer none))
    refine hK.out _ _ ⟨hBx,(hBx.cell (p:=⟨S,2,none⟩) hSl).trans c2⟩ (fun _ => ?_)
    clear hK K
    (try simp only [Act.put,List.getElem_toArray,List.getElem_cons_zero,List.getElem_cons_succ,List.setIfInBounds_toArray,List.set_cons_zero,List.set_cons_succ])
    refine wpAnyH_done (by kernel_rfl) ?_ _
    go_wp2_with fail
    go_meet
    exact ⟨_,rfl,Held.row hz5 _,hBx,hge⟩
 case rest =>
 obtain ⟨O,rfl,hO5',hBA',hw5'⟩:=hcut
 have hO5:=lhi hO5'
 have hBA:=lhi hBA'
 have hw5:=lhi hw5'
 clear hO5' hBA' hw5' hN0 hQ0 c2
 have c0 : wc.cell? ⟨S,0,none⟩ = some (.slice An nn cn):=(hh.out.keep hBA.out).at_ rfl
 have hP1:=lhi (mput_any O (pt0 a) (.pointer none) 0 ((nn : Int) - 1) 0 0 wc hO5.out ⟨none,rfl⟩)
 go_upto_region 3 with (go_at_call 34;refine (hP1.out).mono ?_;intro e w3 hm;obtain ⟨rfl,hg3,pv3,hO3'⟩:=(show Ow wc S ns O (.pointer none) (pt0 a) [] from ⟨hO5.out,.nil,by have:=hw5.out;omega⟩).put (tk:=.node ((nn : Int) - 1)) ⟨rfl,rfl,rfl,rfl⟩ hm;have hO3:=lhi hO3';have hB3:=lhi (hBA.out.grown hg3 hBA.out.size (fun k e => by rw [← Option.some.inj e];exact hw5.out));clear hO3' hm hg3)
 have hS3 : Sta w3 S S O An nn cn At nt ct ns t g a M (.slice none 0 0) [] none pv3 (pt0 a) [.node ((nn : Int) - 1)] :=
  ⟨⟨hh.out.keep hB3.out,World.ownsRow_nil _ _ _ _,(fun y hy => by cases hy),hth.out.below (hB3.out.mono (by omega)),nlr _,by have:=hM'.out;simp;omega⟩,hO3.out.way,hO3.out.row,(fun e => by cases e),hO3.out.base⟩
 have hc4 : w3.cell? ⟨S,4,none⟩ = some (.slice none 0 0):=hS3.c4
 obtain ⟨ho1,ho2⟩:=hS3.pushed hO3.out (by have:=hM'.out;simp;omega)
 have hOwn:=lhi ho1
 have hpush:=lhi (fun g6 c6 w6 hw hg hv => let q:=ho2 g6 c6 w6 hw hg hv;And.intro q.1 (show RelA w S S An nn cn At nt ct ns t g a M (.slice (some ⟨g6,0,none⟩) (0 + 1) c6) ([] ++ [(pv3,pt0 a,[.node ((nn : Int) - 1)])]) M 0 [] (w6.setCell ⟨S,4,none⟩ (.slice (some ⟨g6,0,none⟩) (0 + 1) c6)) from
  ⟨q.2.1.s,(hB3.out.mono (by omega)).trans (hS3.low q.2.2),by rw [← hnn.out];exact Eqv.refl _,by omega,fun y hy => by
   simp only [List.nil_append,List.mem_singleton] at hy
   subst hy
   have:=wok0 hth.out.rt (by rw [← hnn.out];exact hn1) ha'.out
   rw [← hnn.out] at this
   exact this,by have:=hM'.out;simp;omega⟩))
 have hOD:=lhi hO3.out.way.drew
 have hCs:=lhi (way_hold (pt0 a) pv3)
 have hCw:=lhi (show ∃ p' pv',wayC (pt0 a) pv3 = wayC p' pv' from ⟨pt0 a,pv3,rfl⟩)
 have hCone:=lhi (show ∀ u ∈ (wayC (pt0 a) pv3).toList,u.oneCell' = true from by rw [wayC_list];exact wayL_one hO3.out.row.ptr)
 have hNew:=lhi (new_list w3 (wayC (pt0 a) pv3) 86)
 have hTl : S < w3.heap.size:=hS3.s.held.lt
 rw [show wtsL ([] : List Wt) = [] from rfl] at hOwn hpush
 clear ho1 ho2 hS3 hP1 hO3 hO5 hBA c0
 generalize wayC (pt0 a) pv3 = C3 at *
 go_cut [] from 20 to 29 (fun wx => RelA1 w S An nn cn At nt ct ns t g a M wx)
 case first =>
  refine wp_region_any (by kernel_rfl) ?_
  change wpAny _ _ _ _ _ _ _ (World.drew _)
  refine wpAny_take (i:=0) (v:=?_) rfl (by kernel_rfl) (by kernel_rfl) (by kernel_rfl) (fun _ _ _ h => h) (Or.inl ⟨by rfl,?_⟩) ?_
  rotate_left
  · (intro w';go_simp;try with_reducible rfl)
  (try simp only [Act.put,List.getElem_toArray,List.getElem_cons_zero,List.getElem_cons_succ,List.setIfInBounds_toArray,List.set_cons_zero,List.set_cons_succ])
  refine wpAny_take (i:=1) (v:=?_) rfl (by kernel_rfl) (by kernel_rfl) (by kernel_rfl) (fun _ _ _ h => h) (Or.inl ⟨by rfl,?_⟩) ?_
  rotate_left
  · (intro w';go_simp;try with_reducible rfl)
  (try simp only [Act.put,List.getElem_toArray,List.getElem_cons_zero,List.getElem_cons_succ,List.setIfInBounds_toArray,List.set_cons_zero,List.set_cons_succ])
  refine wpAny_take (i:=2) (v:=?_) rfl (by kernel_rfl) (by kernel_rfl) (by kernel_rfl) (fun _ _ _ h => h) (Or.inl ⟨by rfl,?_⟩) ?_
  rotate_left
  · (intro w';go_simp;try with_reducible rfl)
  (try simp only [Act.put,List.getElem_toArray,List.getElem_cons_zero,List.getElem_cons_succ,List.setIfInBounds_toArray,List.set_cons_zero,List.set_cons_succ])
  refine wpAny_take (i:=3) (v:=?_) rfl (by kernel_rfl) (by kernel_rfl) (by kernel_rfl) (fun _ _ _ h => h) (Or.inl ⟨by rfl,?_⟩) ?_
  rotate_left
  · (intro w';go_simp;try with_reducible rfl)
  (try simp only [Act.put,List.getElem_toArray,List.getElem_cons_zero,List.getElem_cons_succ,List.setIfInBounds_toArray,List.set_cons_zero,List.set_cons_succ])
  refine wpAny_ready (rs:=[4,5]) (by kernel_rfl) (by simp) ?_
  refine AllReady.cons rfl (fun K hK => ?_) ?_
  · go_simp
    refine hK _ _ ?_
    clear hK K
    (try simp only [Act.put,List.getElem_toArray,List.getElem_cons_zero,List.getElem_cons_succ,List.setIfInBounds_toArray,List.set_cons_zero,List.set_cons_succ])
    refine wpAny_ready (rs:=[5]) (by kernel_rfl) (by simp) ?_
    refine AllReady.cons rfl (fun K hK => ?_) AllReady.nil
    refine step_load_way (.tmp 3) rfl rfl O rfl C3 hCs.out hOD.out ?_
    (try go_simp)
    refine hK _ _ ?_
    clear hK K
    (try simp only [Act.put,List.getElem_toArray,List.getElem_cons_zero,List.getElem_cons_succ,List.setIfInBounds_toArray,List.set_cons_zero,List.set_cons_succ])
    refine wpAny_ready (rs:=[6]) (by kernel_rfl) (by simp) ?_
    refine AllReady.cons rfl (fun K hK => ?_) AllReady.nil
    refine step_build_way (.tmp 25) rfl rfl C3 rfl hCw.out ?_
    (try go_simp)
    refine hK _ _ ?_
    clear hK K
    (try simp only [Act.put,List.getElem_toArray,List.getElem_cons_zero,List.getElem_cons_succ,List.setIfInBounds_toArray,List.set_cons_zero,List.set_cons_succ])
    refine wpAny_ready (rs:=[7]) (by kernel_rfl) (by simp) ?_
    refine AllReady.cons rfl (fun K hK => ?_) AllReady.nil
    refine step_append_lies _ (by rfl) _ _ 55 (by rfl) S 86 i0 _ 22 176 Try.underlying55 hi0 hq0 hq1 hI2.out rfl (by decide) (.slice none 0 0) 0 [] (by rfl) hOwn.out.1 ⟨w3.heap.size,0,none⟩ 1 1 C3.toList (by rfl) (by rw [Array.length_toList,hCs.out]) hNew.out hCone.out (by omega) (by unfold maxLen;omega) (by omega) hOwn.out.2 (w3.heap.size + 1) (by simp) ?_
    intro g6 c6 w6 hown6 hg6 hb6 hg6lt
    have hx6:=hpush.out g6 c6 w6 hown6 hg6 hb6
    have hc6:=hx6.1.1
    have hf6:=hx6.1.2
    have hF6:=lhi hx6.2
    clear hown6 hg6 hb6 hx6 hg6lt
    (try go_simp)
    refine hK _ _ ?_
    clear hK K
    (try simp only [Act.put,List.getElem_toArray,List.getElem_cons_zero,List.getElem_cons_succ,List.setIfInBounds_toArray,List.set_cons_zero,List.set_cons_succ])
    refine wpAny_take (i:=8) (v:=?_) rfl (by kernel_rfl) (by kernel_rfl) (by kernel_rfl) (fun _ _ _ h => h) (Or.inl ⟨by rfl,?_⟩) ?_
    rotate_left
    · (intro w';go_simp;try with_reducible rfl)
    (try simp only [Act.put,List.getElem_toArray,List.getElem_cons_zero,List.getElem_cons_succ,List.setIfInBounds_toArray,List.set_cons_zero,List.set_cons_succ])
    refine wpAny_take (i:=9) (v:=?_) rfl (by kernel_rfl) (by kernel_rfl) (by kernel_rfl) (fun _ _ _ h => h) (Or.inl ⟨by rfl,?_⟩) ?_
    rotate_left
    · (intro w';go_simp;try with_reducible rfl)
    (try simp only [Act.put,List.getElem_toArray,List.getElem_cons_zero,List.getElem_cons_succ,List.setIfInBounds_toArray,List.set_cons_zero,List.set_cons_succ])
    refine wpAny_ready (rs:=[10]) (by kernel_rfl) (by simp) ?_
    refine AllReady.cons rfl (fun K hK => ?_) AllReady.nil
    go_simp
    refine hK _ _ ?_
    clear hK K
    (try simp only [Act.put,List.getElem_toArray,List.getElem_cons_zero,List.getElem_cons_succ,List.setIfInBounds_toArray,List.set_cons_zero,List.set_cons_succ])
    refine wpAny_done (by kernel_rfl) ?_ _
    go_wp2_with fail
    go_meet
    exact ⟨_,_,M,0,[],hF6.out⟩
  refine AllReady.cons rfl (fun K hK => ?_) AllReady.nil
  refine step_load_way (.tmp 3) rfl rfl O rfl C3 hCs.out hOD.out ?_
  (try go_simp)
  refine hK _ _ ?_
  clear hK K
  (try simp only [Act.put,List.getElem_toArray,List.getElem_cons_zero,List.getElem_cons_succ,List.setIfInBounds_toArray,List.set_cons_zero,List.set_cons_succ])
  refine wpAny_ready (rs:=[4,6]) (by kernel_rfl) (by simp) ?_
  refine AllReady.cons rfl (fun K hK => ?_) ?_
  · go_simp
    refine hK _ _ ?_
    clear hK K
    (try simp only [Act.put,List.getElem_toArray,List.getElem_cons_zero,List.getElem_cons_succ,List.setIfInBounds_toArray,List.set_cons_zero,List.set_cons_succ])
    refine wpAny_ready (rs:=[6]) (by kernel_rfl) (by simp) ?_
    refine AllReady.cons rfl (fun K hK => ?_) AllReady.nil
    refine step_build_way (.tmp 25) rfl rfl C3 rfl hCw.out ?_
    (try go_simp)
    refine hK _ _ ?_
    clear hK K
    (try simp only [Act.put,List.getElem_toArray,List.getElem_cons_zero,List.getElem_cons_succ,List.setIfInBounds_toArray,List.set_cons_zero,List.set_cons_succ])
    refine wpAny_ready (rs:=[7]) (by kernel_rfl) (by simp) ?_
    refine AllReady.cons rfl (fun K hK => ?_) AllReady.nil
    refine step_append_lies _ (by rfl) _ _ 55 (by rfl) S 86 i0 _ 22 176 Try.underlying55 hi0 hq0 hq1 hI2.out rfl (by decide) (.slice none 0 0) 0 [] (by rfl) hOwn.out.1 ⟨w3.heap.size,0,none⟩ 1 1 C3.toList (by rfl) (by rw [Array.length_toList,hCs.out]) hNew.out hCone.out (by omega) (by unfold maxLen;omega) (by omega) hOwn.out.2 (w3.heap.size + 1) (by simp) ?_
    intro g6 c6 w6 hown6 hg6 hb6 hg6lt
    have hx6:=hpush.out g6 c6 w6 hown6 hg6 hb6
    have hc6:=hx6.1.1
    have hf6:=hx6.1.2
    have hF6:=lhi hx6.2
    clear hown6 hg6 hb6 hx6 hg6lt
    (try go_simp)
    refine hK _ _ ?_
    clear hK K
    (try simp only [Act.put,List.getElem_toArray,List.getElem_cons_zero,List.getElem_cons_succ,List.setIfInBounds_toArray,List.set_cons_zero,List.set_cons_succ])
    refine wpAny_take (i:=8) (v:=?_) rfl (by kernel_rfl) (by kernel_rfl) (by kernel_rfl) (fun _ _ _ h => h) (Or.inl ⟨by rfl,?_⟩) ?_
    rotate_left
    · (intro w';go_simp;try with_reducible rfl)
    (try simp only [Act.put,List.getElem_toArray,List.getElem_cons_zero,List.getElem_cons_succ,List.setIfInBounds_toArray,List.set_cons_zero,List.set_cons_succ])
    refine wpAny_take (i:=9) (v:=?_) rfl (by kernel_rfl) (by kernel_rfl) (by kernel_rfl) (fun _ _ _ h => h) (Or.inl ⟨by rfl,?_⟩) ?_
    rotate_left
    · (intro w';go_simp;try with_reducible rfl)
    (try simp only [Act.put,List.getElem_toArray,List.getElem_cons_zero,List.getElem_cons_succ,List.setIfInBounds_toArray,List.set_cons_zero,List.set_cons_succ])
    refine wpAny_ready (rs:=[10]) (by kernel_rfl) (by simp) ?_
    refine AllReady.cons rfl (fun K hK => ?_) AllReady.nil
    go_simp
    refine hK _ _ ?_
    clear hK K
    (try simp only [Act.put,List.getElem_toArray,List.getElem_cons_zero,List.getElem_cons_succ,List.setIfInBounds_toArray,List.set_cons_zero,List.set_cons_succ])
    refine wpAny_done (by kernel_rfl) ?_ _
    go_wp2_with fail
    go_meet
    exact ⟨_,_,M,0,[],hF6.out⟩
  refine AllReady.cons rfl (fun K hK => ?_) AllReady.nil
  refine step_build_way (.tmp 25) rfl rfl C3 rfl hCw.out ?_
  (try go_simp)
  refine hK _ _ ?_
  clear hK K
  (try simp only [Act.put,List.getElem_toArray,List.getElem_cons_zero,List.getElem_cons_succ,List.setIfInBounds_toArray,List.set_cons_zero,List.set_cons_succ])
  refine wpAny_ready (rs:=[4]) (by kernel_rfl) (by simp) ?_
  refine AllReady.cons rfl (fun K hK => ?_) AllReady.nil
  go_simp
  refine hK _ _ ?_
  clear hK K
  (try simp only [Act.put,List.getElem_toArray,List.getElem_cons_zero,List.getElem_cons_succ,List.setIfInBounds_toArray,List.set_cons_zero,List.set_cons_succ])
  refine wpAny_ready (rs:=[7]) (by kernel_rfl) (by simp) ?_
  refine AllReady.cons rfl (fun K hK => ?_) AllReady.nil
  refine step_append_lies _ (by rfl) _ _ 55 (by rfl) S 86 i0 _ 22 176 Try.underlying55 hi0 hq0 hq1 hI2.out rfl (by decide) (.slice none 0 0) 0 [] (by rfl) hOwn.out.1 ⟨w3.heap.size,0,none⟩ 1 1 C3.toList (by rfl) (by rw [Array.length_toList,hCs.out]) hNew.out hCone.out (by omega) (by unfold maxLen;omega) (by omega) hOwn.out.2 (w3.heap.size + 1) (by simp) ?_
  intro g6 c6 w6 hown6 hg6 hb6 hg6lt
  have hx6:=hpush.out g6 c6 w6 hown6 hg6 hb6
  have hc6:=hx6.1.1
  have hf6:=hx6.1.2
  have hF6:=lhi hx6.2
  clear hown6 hg6 hb6 hx6 hg6lt
  (try go_simp)
  refine hK _ _ ?_
  clear hK K
  (try simp only [Act.put,List.getElem_toArray,List.getElem_cons_zero,List.getElem_cons_succ,List.setIfInBounds_toArray,List.set_cons_zero,List.set_cons_succ])
  refine wpAny_take (i:=8) (v:=?_) rfl (by kernel_rfl) (by kernel_rfl) (by kernel_rfl) (fun _ _ _ h => h) (Or.inl ⟨by rfl,?_⟩) ?_
  rotate_left
  · (intro w';go_simp;try with_reducible rfl)
  (try simp only [Act.put,List.getElem_toArray,List.getElem_cons_zero,List.getElem_cons_succ,List.setIfInBounds_toArray,List.set_cons_zero,List.set_cons_succ])
  refine wpAny_take (i:=9) (v:=?_) rfl (by kernel_rfl) (by kernel_rfl) (by kernel_rfl) (fun _ _ _ h => h) (Or.inl ⟨by rfl,?_⟩) ?_
  rotate_left
  · (intro w';go_simp;try with_reducible rfl)
  (try simp only [Act.put,List.getElem_toArray,List.getElem_cons_zero,List.getElem_cons_succ,List.setIfInBounds_toArray,List.set_cons_zero,List.set_cons_succ])
  refine wpAny_ready (rs:=[10]) (by kernel_rfl) (by simp) ?_
  refine AllReady.cons rfl (fun K hK => ?_) AllReady.nil
  go_simp
  refine hK _ _ ?_
  clear hK K
  (try simp only [Act.put,List.getElem_toArray,List.getElem_cons_zero,List.getElem_cons_succ,List.setIfInBounds_toArray,List.set_cons_zero,List.set_cons_succ])
  refine wpAny_done (by kernel_rfl) ?_ _
  go_wp2_with fail
  go_meet
  exact ⟨_,_,M,0,[],hF6.out⟩
 case rest =>
 obtain ⟨v0,xs0,left0,c0,hs0,hF6⟩:=hcut
 replace hF6:=lhi hF6
 clear hOwn hpush hOD hCs hCw hCone hNew hTl hc4
 go_wp2
 go_loopw [] (fun wr => ∃ v1 xs1 left1 c1 hs1,Hid (RelA w S S An nn cn At nt ct ns t g a M v1 xs1 left1 c1 hs1 wr)) (fun wr => wtM S wr)
 case atStart => exact ⟨_,_,_,_,_,hF6⟩
 case round =>
  obtain ⟨v1,xs1,left1,c1,hs1,hR⟩:=hrel
  clear hF6
  rcases snoc_cases xs1 with rfl | ⟨ys,x,rfl⟩
  · obtain ⟨A,cap,rfl,-⟩:=own_sliceY hR.out.s.own
    have c4 : wr.cell? ⟨S,4,none⟩ = some (.slice A 0 cap):=hR.out.s.held.at_ rfl
    have hE:=lhi hR.out.empty
    clear hR
    go_wp2
    go_ret
    exact hE.out
  · have hown:=hR.out.s.own
    rw [lla] at hown
    obtain ⟨gg,cap,rfl,-,hgl⟩:=hown.form (by simp)
    obtain ⟨A',cap',e1,hcap,hmx,-⟩:=own_sliceY hown
    injection e1 with ea eb ec
    subst ea
    subst ec
    clear eb
    simp only [List.length_cons,List.length_nil,Nat.zero_add] at hown hR hcap
    have c4 : wr.cell? ⟨S,4,none⟩ = some (.slice (some ⟨gg,0,none⟩) (ys.length + 1) cap):=hR.out.s.held.at_ rfl
    have t4:=hR.out.s.held.thawed 4
    have hRx:=lhi (show wr.rangeAt gg (ys.length * 22) (wayL x.2.1 x.1) from fun j u hj => by
     have hj22 : j < 22:=by have:=(List.getElem?_eq_some_iff.1 hj).1;rwa [wayL_len] at this
     rw [hown.cellAt (ys.length * 22 + j) (by omega),wtsL_append,List.getElem?_append_right (by rw [wtsL_len];omega),wtsL_len,wtsL_one,Nat.add_sub_cancel_left]
     exact hj)
    have hone:=lhi (way_cells (p:=x.2.1) (hR.out.s.rows x (by simp)).ptr)
    have hm:=lhi (wtM_at hR.out.s)
    have hSl:=hR.out.s.held.lt
    have hlen : (ys.length : Int) ≤ 1000000:=by have:=hR.out.few;simp at this;omega
    have hw1 : IntKind.i64.wrap (((ys.length + 1 : Nat) : Int) - 1) = (ys.length : Int):=by rw [IntWalk.i64_in _ (by omega)];omega
    have hw2 : IntKind.i64.wrap ((ys.length : Int) + 1 - 1) = (ys.length : Int):=by rw [IntWalk.i64_in _ (by omega)];omega
    have hbx:=lhi (below_row ((Below.refl wr.heap.size wr).alloc (nlr _) (.cells (wayC ⟨0,sp00⟩ (.pointer none)) 86)) (nlr _) (wayC x.2.1 x.1))
    have hOx:=lhi ((held_new wr 86 (wayC ⟨0,sp00⟩ (.pointer none))).row (wayC x.2.1 x.1))
    have hnull:=lhi (held_new wr 86 (wayC ⟨0,sp00⟩ (.pointer none)))
    have hT:=lhi (hR.out.take (nlr _) hbx.out hOx.out)
    have hok:=lhi (hR.out.oks x (by simp))
    have hoks:=lhi (fun y hy => hR.out.oks y (List.mem_append_left _ hy))
    have hfew:=lhi (show ys.length + left1 ≤ 1000000 from by have:=hR.out.few;simp at this;omega)
    have hC:=lhi (toItsEnd_any hT.out.1 hok.out hoks.out hfew.out)
    have hD:=lhi (fun w6 hE => hR.out.dry (w6:=w6) hT.out.1 hT.out.2 hE)
    have hN:=lhi (fun w6 hE => hR.out.next (w6:=w6) hT.out.1 hT.out.2 hE)
    rw [show wayC ⟨0,sp00⟩ (.pointer none) = #[.int .i64 0,.int .i64 0,.int .i64 0,.int .i64 0,.int .i64 0,.int .i64 0,.int .i64 0,.int .i64 0,.int .i64 0,.int .i64 0,.int .i64 0,.int .i64 0,.int .i64 0,.int .i64 0,.int .i64 0,.int .i64 0,.int .i64 0,.int .i64 0,.int .i64 0,.int .i64 0,.int .i64 0,.pointer none] from rfl] at hC hD hN
    rw [show (ys ++ [x]).length = ys.length + 1 from by simp] at hm
    have hWL:=lhi (show wayC x.2.1 x.1 = (wayL x.2.1 x.1).toArray from rfl)
    have hWn:=lhi (wayL_len x.2.1 x.1)
    rw [hWL.out] at hC hD hN hone
    have tS4 : ((wr.alloc (.cells #[.int .i64 0,.int .i64 0,.int .i64 0,.int .i64 0,.int .i64 0,.int .i64 0,.int .i64 0,.int .i64 0,.int .i64 0,.int .i64 0,.int .i64 0,.int .i64 0,.int .i64 0,.int .i64 0,.int .i64 0,.int .i64 0,.int .i64 0,.int .i64 0,.int .i64 0,.int .i64 0,.int .i64 0,.pointer none] 86)).setRow wr.heap.size (wayL x.2.1 x.1).toArray).cell? ⟨S,4,none⟩ = some (.slice (some ⟨gg,0,none⟩) (ys.length + 1) cap):=(hR.out.s.keep hbx.out).held.at_ rfl
    have tf4 : ((wr.alloc (.cells #[.int .i64 0,.int .i64 0,.int .i64 0,.int .i64 0,.int .i64 0,.int .i64 0,.int .i64 0,.int .i64 0,.int .i64 0,.int .i64 0,.int .i64 0,.int .i64 0,.int .i64 0,.int .i64 0,.int .i64 0,.int .i64 0,.int .i64 0,.int .i64 0,.int .i64 0,.int .i64 0,.int .i64 0,.pointer none] 86)).setRow wr.heap.size (wayL x.2.1 x.1).toArray).frozen? ⟨S,4,none⟩ = false:=(hR.out.s.keep hbx.out).held.thawed 4
    clear hR hbx hOx hT hok hoks hfew hown hWL
    generalize wayL x.2.1 x.1 = LX at *
    generalize ys.length = yn at *
    have hcap2 : (yn : Int) ≤ (cap : Int):=by omega
    go_wp2_with (first
     | (refine wpList_load_mid rfl 86 (.tmp 47) rfl gg (yn * 22) rfl LX _ hRx.out Try.underlying86 rfl (by rw [hWn.out];exact way_size22) ?_)
     | (refine wpList_store_row rfl 86 (.tmp 5) (.tmp 48) rfl wr.heap.size LX.toArray rfl rfl 86 _ hnull.out (by rw [List.size_toArray,hWn.out];exact way_size22) (by show 22 = LX.toArray.size;rw [List.size_toArray,hWn.out]) hone.out ?_)
     | (go_at_call 35;refine (hC.out).mono ?_;intro e w6 hE;obtain ⟨rb,rfl⟩:=hE.ret;cases rb <;> replace hE:=lhi hE))
    · go_ret
      exact hD.out _ hE.out
    · obtain ⟨v2,xs2,left2,c2,hs2,hq,hlt⟩:=hN.out _ hE.out
      go_roundw
      case rel => exact ⟨v2,xs2,left2,c2,hs2,lhi hq⟩
      case measure => rw [wtM_at hq.s,hm.out];exact hlt
end
end Go.Proofs.Ytbdfhmefjfaofaa
