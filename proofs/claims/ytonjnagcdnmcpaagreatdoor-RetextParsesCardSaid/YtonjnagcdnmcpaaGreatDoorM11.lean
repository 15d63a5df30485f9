/- Contracts and plain facts: M11. -/
import Derived.Test.YtonjnagcdnmcpaaGreatDoorM10
import Derived.Shelf.Abstract
set_option linter.unusedVariables false
set_option linter.unusedSimpArgs false
set_option maxRecDepth 100000
set_option maxHeartbeats 32000000
namespace Go.Proofs.YtonjnagcdnmcpaaGreatDoor
open Go.RowKit
theorem nodV_z (k a b lo hi g : Int) : nodV ⟨k,a,b,lo,hi,g,zset⟩ = .agg #[.int .i64 k,.int .i64 a,.int .i64 b,.int .i64 lo,.int .i64 hi,.int .i64 g,.int .u64 0,.int .u64 0,.int .u64 0,.int .u64 0]:=by unfold nodV;rw [nodC_z]
def emptyN : Nod:=⟨0,0,0,0,0,0,zset⟩
def setN (s : Nat → Bool) : Nod:=⟨1,0,0,0,0,0,s⟩
def bolN : Nod:=⟨7,0,0,0,0,0,zset⟩
def eolN : Nod:=⟨8,0,0,0,0,0,zset⟩
def repN (a lo hi : Int) : Nod:=⟨4,a,0,lo,hi,0,zset⟩
def groupN (g a : Int) : Nod:=⟨5,a,0,0,0,g,zset⟩
def backN (g : Int) : Nod:=⟨6,0,0,0,0,g,zset⟩
def twoN (k a b : Int) : Nod:=⟨k,a,b,0,0,0,zset⟩
section
variable (B T o : Nat) (v : Value) (ns : List Nod) (g : Nat) (w : World) (h : Bldr w B T o v ns g)
include h
theorem empty_any : Calls Tryz.prog 27 #[.pointer (some ⟨T,o,none⟩)] w (BldRet w B T o v (putI ns g emptyN) (putL ns g emptyN) g):=by
 have hP:=lhi (put_any B T o v ns g emptyN w h)
 rw [show nodV emptyN = _ from nodV_z 0 0 0 0 0 0] at hP
 clear h
 go_enter Tryz.func27,Tryz.ntmps27
 go_wp2_with (go_at_call 41;refine (hP.out).mono ?_;rintro e w' ⟨v',rfl,h1,h2⟩)
 go_ret
 exact BldRet.mk rfl h1 h2
theorem bol_any : Calls Tryz.prog 46 #[.pointer (some ⟨T,o,none⟩)] w (BldRet w B T o v (putI ns g bolN) (putL ns g bolN) g):=by
 have hP:=lhi (put_any B T o v ns g bolN w h)
 rw [show nodV bolN = _ from nodV_z 7 0 0 0 0 0] at hP
 clear h
 go_enter Tryz.func46,Tryz.ntmps46
 go_wp2_with (go_at_call 41;refine (hP.out).mono ?_;rintro e w' ⟨v',rfl,h1,h2⟩)
 go_ret
 exact BldRet.mk rfl h1 h2
theorem eol_any : Calls Tryz.prog 88 #[.pointer (some ⟨T,o,none⟩)] w (BldRet w B T o v (putI ns g eolN) (putL ns g eolN) g):=by
 have hP:=lhi (put_any B T o v ns g eolN w h)
 rw [show nodV eolN = _ from nodV_z 8 0 0 0 0 0] at hP
 clear h
 go_enter Tryz.func88,Tryz.ntmps88
 go_wp2_with (go_at_call 41;refine (hP.out).mono ?_;rintro e w' ⟨v',rfl,h1,h2⟩)
 go_ret
 exact BldRet.mk rfl h1 h2
theorem rep_any (a lo hi : Int) : Calls Tryz.prog 71 #[.pointer (some ⟨T,o,none⟩),.int .i64 a,.int .i64 lo,.int .i64 hi] w (BldRet w B T o v (putI ns g (repN a lo hi)) (putL ns g (repN a lo hi)) g):=by
 have hP:=lhi (put_any B T o v ns g (repN a lo hi) w h)
 rw [show nodV (repN a lo hi) = _ from nodV_z 4 a 0 lo hi 0] at hP
 clear h
 go_enter Tryz.func71,Tryz.ntmps71
 go_wp2_with (go_at_call 41;refine (hP.out).mono ?_;rintro e w' ⟨v',rfl,h1,h2⟩)
 go_ret
 exact BldRet.mk rfl h1 h2
theorem group_any (q a : Int) : Calls Tryz.prog 113 #[.pointer (some ⟨T,o,none⟩),.int .i64 q,.int .i64 a] w (BldRet w B T o v (putI ns g (groupN q a)) (putL ns g (groupN q a)) g):=by
 have hP:=lhi (put_any B T o v ns g (groupN q a) w h)
 rw [show nodV (groupN q a) = _ from nodV_z 5 a 0 0 0 q] at hP
 clear h
 go_enter Tryz.func113,Tryz.ntmps113
 go_wp2_with (go_at_call 41;refine (hP.out).mono ?_;rintro e w' ⟨v',rfl,h1,h2⟩)
 go_ret
 exact BldRet.mk rfl h1 h2
theorem back_any (q : Int) : Calls Tryz.prog 149 #[.pointer (some ⟨T,o,none⟩),.int .i64 q] w (BldRet w B T o v (putI ns g (backN q)) (putL ns g (backN q)) g):=by
 have hP:=lhi (put_any B T o v ns g (backN q) w h)
 rw [show nodV (backN q) = _ from nodV_z 6 0 0 0 0 q] at hP
 clear h
 go_enter Tryz.func149,Tryz.ntmps149
 go_wp2_with (go_at_call 41;refine (hP.out).mono ?_;rintro e w' ⟨v',rfl,h1,h2⟩)
 go_ret
 exact BldRet.mk rfl h1 h2
theorem set_any (s : Nat → Bool) : Calls Tryz.prog 114 #[.pointer (some ⟨T,o,none⟩),setV s] w (BldRet w B T o v (putI ns g (setN s)) (putL ns g (setN s)) g):=by
 have hb : Below w.heap.size w (w.alloc (.cells (setC s) 41)):=(Below.refl _ _).alloc (nlr _) _
 have hP:=lhi (put_any B T o v ns g (setN s) _ (h.keep hb))
 have hb':=lhi hb
 clear hb
 unfold setV
 rw [show nodV (setN s) = _ from nodV_lit 1 0 0 0 0 0 s] at hP
 rw [show setC s = #[.int .u64 (wd s 0 : Nat),.int .u64 (wd s 1 : Nat),.int .u64 (wd s 2 : Nat),.int .u64 (wd s 3 : Nat)] from rfl] at hP hb' ⊢
 clear h
 go_enter Tryz.func114,Tryz.ntmps114
 go_wp2_with (go_at_call 41;refine (hP.out).mono ?_;rintro e w' ⟨v',rfl,h1,h2⟩)
 go_ret
 exact BldRet.mk rfl h1 ((Chg.of_below hb'.out).trans h2)
end
noncomputable def chainGo (g : Nat) (kind : Int) : Int → List Nod → List Int → Int × List Nod
 | all,ns,[] => (all,ns)
 | all,ns,p :: r => if canPut ns g (twoN kind all p) = true then chainGo g kind (ns.length : Int) (ns ++ [twoN kind all p]) r else (-1,ns)
noncomputable def chainN (ns : List Nod) (g : Nat) (kind : Int) : List Int → Int × List Nod
 | [] => (-1,ns)
 | x :: r => if okP (ns.length : Int) x = true then chainGo g kind x ns r else (-1,ns)
def Apart (A : Option Addr) (T : Nat) (v : Value) : Prop:=∀ ad,A = some ad → ad.block ≠ T ∧ some ad.block ≠ v.ownBlock
theorem Vals.chg {w w' : World} {Bs T o : Nat} {A : Option Addr} {v v' : Value} {xs : List Value} (h : Vals w Bs A xs) (hc : Chg w w' T o v v') (hB : Bs ≤ w.heap.size) (ha : Apart A T v) : Vals w' Bs A xs:=by
 intro k hk
 obtain ⟨ad,e,hb,hcell⟩:=h k hk
 obtain ⟨h1,h2⟩:=ha ad e
 refine ⟨ad,e,hb,?_⟩
 rw [World.cell?_of_block (hc.far _ (by rw [block_add];omega) (by rw [block_add];exact h1) (by rw [block_add];exact h2))]
 exact hcell
def RelCh (w : World) (B T o : Nat) (v : Value) (R : Int × List Nod) (g : Nat) (kind : Int) (rest : List Int) (n : Nat) (a i : Value) (wr : World) : Prop :=
 ∃ (k : Nat) (all : Int) (ns : List Nod) (v' : Value),k ≤ n ∧ i = .int .i64 (k : Nat) ∧ a = .int .i64 all ∧ chainGo g kind all ns (rest.drop k) = R ∧ Bldr wr B T o v' ns g ∧ Chg w wr T o v v'
theorem RelCh.mk {w : World} {B T o : Nat} {v : Value} {R : Int × List Nod} {g : Nat} {kind : Int} {rest : List Int} {n : Nat} {a i : Value} {wr : World} (h : ∃ (k : Nat) (all : Int) (ns : List Nod) (v' : Value),k ≤ n ∧ i = .int .i64 (k : Nat) ∧ a = .int .i64 all ∧ chainGo g kind all ns (rest.drop k) = R ∧ Bldr wr B T o v' ns g ∧ Chg w wr T o v v') : RelCh w B T o v R g kind rest n a i wr:=h
theorem chain_any (B T o : Nat) (v : Value) (ns : List Nod) (g : Nat) (kind : Int) (ad : Addr) (n c Bs : Nat) (l : List Int) (w : World) (h : Bldr w B T o v ns g) (hn : n = l.length) (hnc : n ≤ c) (hm : c ≤ 9223372036854775807) (h0 : 0 < n)
    (hv : Vals w Bs (some ad) (l.map (Value.int .i64))) (hBs : Bs ≤ w.heap.size) (ha : Apart (some ad) T v) :
    Calls Tryz.prog 68 #[.pointer (some ⟨T,o,none⟩),.int .i64 kind,.slice (some ad) n c] w (BldRet w B T o v (chainN ns g kind l).1 (chainN ns g kind l).2 g):=by
 obtain ⟨x,r,rfl⟩ : ∃ x r,l = x :: r:=by cases l with | nil => simp at hn;omega | cons x r => exact ⟨x,r,rfl⟩
 obtain ⟨m,rfl⟩ : ∃ m,n = m + 1:=⟨n - 1,by omega⟩
 obtain ⟨d,rfl⟩ : ∃ d,c = d + 1:=⟨c - 1,by omega⟩
 have hmr : m = r.length:=by simpa using hn
 obtain ⟨ad0,e0,-,hx⟩:=hv.at_ (k:=0) (by simp)
 obtain rfl:=Option.some.inj e0
 have hx' : w.cell? ad = some (.int .i64 x):=hx
 have hH:=lhi (bhas_any B T o v ns g x w h)
 have hvr : Vals w Bs (some (ad.add 1)) (r.map (Value.int .i64)):=by
  intro k hk
  obtain ⟨ad1,e1,hb1,hc1⟩:=hv (k + 1) (by simpa using hk)
  obtain rfl:=Option.some.inj e1
  refine ⟨_,rfl,by rw [block_add];exact hb1,?_⟩
  rw [add_two,Nat.add_comm,hc1];simp
 have har : Apart (some (ad.add 1)) T v:=fun a2 e => by
  obtain rfl:=Option.some.inj e
  rw [block_add];exact ha ad rfl
 have hN : chainN ns g kind (x :: r) = if okP (ns.length : Int) x = true then chainGo g kind x ns r else (-1,ns):=rfl
 rw [hN]
 have hh:=lhi h
 rw [show ad.add 1 = ⟨ad.block,ad.off + 1,none⟩ from rfl] at hvr har
 have hvh:=lhi hvr
 have hah:=lhi har
 have hBh:=lhi hBs
 have hml:=lhi hmr
 clear hv hx e0 ha hn hN h hvr har hBs hmr
 cases hok : okP (ns.length : Int) x
 · rw [hok] at hH
   rw [if_neg (by decide)]
   clear hok
   go_enter Tryz.func68,Tryz.ntmps68
   go_wp2_with (go_at_call 63;refine (hH.out).mono ?_;rintro e w' ⟨rfl,rfl⟩)
   go_ret
   exact BldRet.mk rfl hh.out (Chg.of_below (Below.refl _ _))
 · rw [hok] at hH
   rw [if_pos rfl]
   clear hok
   generalize hR : chainGo g kind x ns r = R
   replace hR:=lhi hR
   by_cases hd : d = 0
   · obtain rfl : m = 0:=by omega
     subst hd
     go_enter Tryz.func68,Tryz.ntmps68
     go_wp2_with (go_at_call 63;refine (hH.out).mono ?_;rintro e w' ⟨rfl,rfl⟩)
     clear hH hx'
     go_loopw [7,9,20] (fun a _ i wr => RelCh w B T o v R g kind r 0 a i wr) (fun _ _ i _ => 0 - (intOf i).toNat)
     case atStart => exact RelCh.mk ⟨0,x,ns,v,by omega,rfl,rfl,hR.out,hh.out,Chg.of_below (Below.refl _ _)⟩
     case round =>
      obtain ⟨k,all,ns',v',hk,rfl,rfl,hcg,hBl,hCh⟩:=hrel
      by_cases hlt : k < 0
      · omega
      · obtain rfl : k = 0:=by omega
        rw [List.drop_eq_nil_of_le (by have:=hml.out;omega)] at hcg
        have hcg' : (all,ns') = R:=hcg
        replace hcg':=lhi hcg'
        replace hBl:=lhi hBl
        replace hCh:=lhi hCh
        clear hcg
        go_wp2
        go_ret
        exact BldRet.mk (by rw [← hcg'.out]) (by rw [← hcg'.out];exact hBl.out) hCh.out
   · have hd1 : ¬ d + 1 = 1:=by omega
     go_enter Tryz.func68,Tryz.ntmps68
     go_wp2_with (go_at_call 63;refine (hH.out).mono ?_;rintro e w' ⟨rfl,rfl⟩)
     clear hH hx'
     go_loopw [7,9,20] (fun a _ i wr => RelCh w B T o v R g kind r m a i wr) (fun _ _ i _ => m - (intOf i).toNat)
     case atStart => exact RelCh.mk ⟨0,x,ns,v,by omega,rfl,rfl,hR.out,hh.out,Chg.of_below (Below.refl _ _)⟩
     case round =>
      obtain ⟨k,all,ns',v',hk,rfl,rfl,hcg,hBl,hCh⟩:=hrel
      by_cases hlt : k < m
      · have hkr : k < r.length:=by have:=hml.out;omega
        obtain ⟨ad2,e2,-,hd2⟩:=(hvh.out.chg hCh hBh.out hah.out).at_ (k:=k) (by rw [List.length_map];exact hkr)
        obtain rfl:=Option.some.inj e2
        rw [List.getElem_map,Addr.add_mid] at hd2
        rw [List.drop_eq_getElem_cons hkr] at hcg
        generalize r[k]'hkr = p at *
        have hP:=lhi (put_any B T o v' ns' g (twoN kind all p) wr hBl)
        rw [show nodV (twoN kind all p) = _ from nodV_z kind all p 0 0 0] at hP
        have hcg' : (if canPut ns' g (twoN kind all p) = true then chainGo g kind (ns'.length : Int) (ns' ++ [twoN kind all p]) (r.drop (k + 1)) else (-1,ns')) = R:=hcg
        replace hCh:=lhi hCh
        clear hcg e2 hBl
        unfold putI putL at hP
        cases hcp : canPut ns' g (twoN kind all p)
        · rw [hcp,if_neg (by decide)] at hcg'
          rw [hcp,if_neg (by decide),if_neg (by decide)] at hP
          replace hcg':=lhi hcg'
          clear hcp
          go_wp2_with (go_at_call 41;refine (hP.out).mono ?_;rintro e w' ⟨v2,rfl,h1,h2⟩;have hB2:=lhi h1;have hC2:=lhi h2;clear h1 h2)
          go_ret
          exact BldRet.mk (by rw [← hcg'.out]) (by rw [← hcg'.out];exact hB2.out) (hCh.out.trans hC2.out)
        · rw [hcp,if_pos rfl] at hcg'
          rw [hcp,if_pos rfl,if_pos rfl] at hP
          replace hcg':=lhi hcg'
          clear hcp
          generalize ns' ++ [twoN kind all p] = ns2 at *
          generalize ns'.length = L at *
          have hq : ((L : Int) == -1) = false:=by rw [bef];omega
          go_wp2_with (go_at_call 41;refine (hP.out).mono ?_;rintro e w' ⟨v2,rfl,h1,h2⟩;have hB2:=lhi h1;have hC2:=lhi h2;clear h1 h2)
          go_roundw
          case rel => exact RelCh.mk ⟨k + 1,(L : Int),ns2,v2,by omega,by go_num,rfl,hcg'.out,hB2.out,hCh.out.trans hC2.out⟩
          case measure => simp [intOf];omega
      · obtain rfl : k = m:=by omega
        rw [List.drop_eq_nil_of_le (by have:=hml.out;omega)] at hcg
        have hcg' : (all,ns') = R:=hcg
        replace hcg':=lhi hcg'
        replace hBl:=lhi hBl
        replace hCh:=lhi hCh
        clear hcg
        go_wp2
        go_ret
        exact BldRet.mk (by rw [← hcg'.out]) (by rw [← hcg'.out];exact hBl.out) hCh.out
noncomputable def catR (ns : List Nod) (g : Nat) (l : List Int) : Int × List Nod:=if l = [] then (putI ns g emptyN,putL ns g emptyN) else chainN ns g 2 l
noncomputable def altR (ns : List Nod) (g : Nat) (l : List Int) : Int × List Nod:=if l = [] then (-1,ns) else chainN ns g 3 l
section
variable (B T o : Nat) (v : Value) (ns : List Nod) (g : Nat) (A : Option Addr) (n c Bs : Nat) (l : List Int) (w : World) (h : Bldr w B T o v ns g) (hn : n = l.length) (hnc : n ≤ c) (hm : c ≤ 9223372036854775807) (hv : Vals w Bs A (l.map (Value.int .i64))) (hBs : Bs ≤ w.heap.size) (ha : Apart A T v)
include h hn hnc hm hv hBs ha
theorem cat_any : Calls Tryz.prog 73 #[.pointer (some ⟨T,o,none⟩),.slice A n c] w (BldRet w B T o v (catR ns g l).1 (catR ns g l).2 g):=by
 by_cases hl : l = []
 · subst hl
   obtain rfl : n = 0:=by simpa using hn
   rw [show catR ns g [] = (putI ns g emptyN,putL ns g emptyN) from rfl]
   have hE:=lhi (empty_any B T o v ns g w h)
   clear h hn hv ha
   go_enter Tryz.func73,Tryz.ntmps73
   go_wp2_with (go_at_call 27;refine (hE.out).mono ?_;rintro e w' ⟨v',rfl,h1,h2⟩)
   go_ret
   exact BldRet.mk rfl h1 h2
 · have hn0 : 0 < n:=by
     have : l.length ≠ 0:=fun e => hl (List.length_eq_zero_iff.1 e)
     omega
   obtain ⟨ad,e,-,-⟩:=hv.at_ (k:=0) (by simpa using (by omega : 0 < l.length))
   subst e
   have hE:=lhi (chain_any B T o v ns g 2 ad n c Bs l w h hn hnc hm hn0 hv hBs ha)
   rw [show catR ns g l = chainN ns g 2 l by simp [catR,hl]]
   have hq : ((n : Int) == 0) = false:=by rw [bef];omega
   clear h hn hv ha hl
   generalize chainN ns g 2 l = R at *
   go_enter Tryz.func73,Tryz.ntmps73
   go_wp2_with (go_at_call 68;refine (hE.out).mono ?_;rintro e w' ⟨v',rfl,h1,h2⟩)
   go_ret
   exact BldRet.mk rfl h1 h2
theorem alt_any : Calls Tryz.prog 45 #[.pointer (some ⟨T,o,none⟩),.slice A n c] w (BldRet w B T o v (altR ns g l).1 (altR ns g l).2 g):=by
 by_cases hl : l = []
 · subst hl
   obtain rfl : n = 0:=by simpa using hn
   rw [show altR ns g [] = (-1,ns) from rfl]
   have hE:=lhi h
   clear h hn hv ha
   go_enter Tryz.func45,Tryz.ntmps45
   go_wp2
   go_ret
   exact BldRet.mk rfl hE.out (Chg.of_below (Below.refl _ _))
 · have hn0 : 0 < n:=by
     have : l.length ≠ 0:=fun e => hl (List.length_eq_zero_iff.1 e)
     omega
   obtain ⟨ad,e,-,-⟩:=hv.at_ (k:=0) (by simpa using (by omega : 0 < l.length))
   subst e
   have hE:=lhi (chain_any B T o v ns g 3 ad n c Bs l w h hn hnc hm hn0 hv hBs ha)
   rw [show altR ns g l = chainN ns g 3 l by simp [altR,hl]]
   have hq : ((n : Int) == 0) = false:=by rw [bef];omega
   clear h hn hv ha hl
   generalize chainN ns g 3 l = R at *
   go_enter Tryz.func45,Tryz.ntmps45
   go_wp2_with (go_at_call 68;refine (hE.out).mono ?_;rintro e w' ⟨v',rfl,h1,h2⟩)
   go_ret
   exact BldRet.mk rfl h1 h2
end
def onceL (l : List Int) : Bool:=l.all fun x => decide (x = 1)
theorem onceL_no {l : List Int} {k : Nat} (hk : k < l.length) (h : l[k]'hk ≠ 1) : onceL l = false:=by
 unfold onceL
 rw [List.all_eq_false]
 exact ⟨_,List.getElem_mem hk,by simpa using h⟩
theorem onceL_yes {l : List Int} (h : ∀ k (hk : k < l.length),l[k]'hk = 1) : onceL l = true:=by
 unfold onceL
 rw [List.all_eq_true]
 intro x hx
 obtain ⟨k,hk,rfl⟩:=List.getElem_of_mem hx
 simpa using h k hk
theorem notOne_any (x : Int) (w : World) : Calls Tryz.prog 58 #[.int .i64 x] w fun e w' => e = .returned (.bool (x != 1)) ∧ w = w':=by
 go_enter Tryz.func58,Tryz.ntmps58
 go_wp2
 go_ret
 exact ⟨rfl,rfl⟩
def IdxRet (l : List Int) (w : World) (e : Ending) (w' : World) : Prop:=∃ z : Int,e = .returned (.int .i64 z) ∧ decide (0 ≤ z) = !onceL l ∧ w = w'
theorem IdxRet.mk {l : List Int} {w w' : World} {z : Int} (h : decide (0 ≤ z) = !onceL l) (hw : w = w') : IdxRet l w (.returned (.int .i64 z)) w':=⟨z,rfl,h,hw⟩
theorem indexNot_any (A : Option Addr) (n c : Nat) (l : List Int) (B : Nat) (w : World) (hn : n = l.length) (hnc : n ≤ c) (hm : c ≤ maxLen) (h : Vals w B A (l.map (Value.int .i64))) :
    Calls Tryz.prog 79 #[.slice A n c,.func (.func 58) #[] #[]] w (IdxRet l w):=by
 unfold maxLen at hm
 have eg : ∀ args w,(callFunc 58 args).run Tryz.prog w = .ok (.enter 58 args) w:=enters_of Tryz.func58 (by kernel_rfl) rfl
 have hH:=lhi hn
 clear hn
 go_enter Tryz.func79,Tryz.ntmps79
 go_wp2
 go_loop [5,8] (fun _ i => ∃ k : Nat,k ≤ n ∧ i = .int .i64 (k : Nat) ∧ Hid (∀ j (hj : j < l.length),j < k → l[j]'hj = 1)) (fun _ i => n - (intOf i).toNat)
 case atStart => exact ⟨0,by omega,rfl,lhi fun j hj h => absurd h (by omega)⟩
 case round =>
  obtain ⟨k,hk,rfl,hr⟩:=hrel
  by_cases hlt : k < n
  · have hkl : k < l.length:=by have:=hH.out;omega
    obtain ⟨ad,hA,-,hd⟩:=h.at_ (k:=k) (by rw [List.length_map];exact hkl)
    subst hA
    rw [List.getElem_map] at hd
    by_cases he : l[k]'hkl = 1
    · have hN:=lhi (show ∀ j (hj : j < l.length),j < k + 1 → l[j]'hj = 1 from fun j hj hl => by
        rcases Nat.lt_or_ge j k with h1 | h1
        · exact hr.out j hj h1
        · obtain rfl : j = k:=by omega
          exact he)
      rw [he] at hd
      clear he
      have hS:=lhi (notOne_any 1 w)
      go_wp2_with (go_at_fn 58;refine (hS.out).mono ?_;rintro e w' ⟨rfl,rfl⟩)
      go_round
      case rel => exact ⟨k + 1,by omega,by go_num,hN⟩
      case measure => simp [intOf];omega
    · have hP:=lhi (onceL_no hkl he)
      have hS:=lhi (show Calls Tryz.prog 58 #[.int .i64 (l[k]'hkl)] w fun e w' => e = .returned (.bool true) ∧ w = w' by
       have:=notOne_any (l[k]'hkl) w
       rw [show (l[k]'hkl != 1) = true by rw [bne_iff_ne];exact he] at this;exact this)
      generalize l[k]'hkl = x at *
      clear he
      go_wp2_with (go_at_fn 58;refine (hS.out).mono ?_;rintro e w' ⟨rfl,rfl⟩)
      go_ret
      exact IdxRet.mk (by rw [hP.out];simp) rfl
  · obtain rfl : k = n:=by omega
    go_wp2
    go_ret
    exact IdxRet.mk (by rw [onceL_yes fun j hj => hr.out j hj (by have:=hH.out;omega)];decide) rfl
theorem containsNot_any (A : Option Addr) (n c : Nat) (l : List Int) (B : Nat) (w : World) (hn : n = l.length) (hnc : n ≤ c) (hm : c ≤ maxLen) (h : Vals w B A (l.map (Value.int .i64))) :
    Calls Tryz.prog 57 #[.slice A n c,.func (.func 58) #[] #[]] w fun e w' => e = .returned (.bool (!onceL l)) ∧ w = w':=by
 have hI:=lhi (indexNot_any A n c l B w hn hnc hm h)
 clear hn h hnc hm
 go_enter Tryz.func57,Tryz.ntmps57
 go_wp2_with (go_at_call 79;refine (hI.out).mono ?_;rintro e w' ⟨z,rfl,hz,rfl⟩;have hz':=lhi hz;clear hz)
 go_ret
 exact ⟨ret_bool hz'.out,rfl⟩
theorem allOnce_any (A : Option Addr) (n c : Nat) (l : List Int) (B : Nat) (w : World) (hn : n = l.length) (hnc : n ≤ c) (hm : c ≤ maxLen) (h : Vals w B A (l.map (Value.int .i64))) :
    Calls Tryz.prog 36 #[.slice A n c] w fun e w' => e = .returned (.bool (onceL l)) ∧ w = w':=by
 have hI:=lhi (containsNot_any A n c l B w hn hnc hm h)
 clear hn h hnc hm
 generalize onceL l = b at *
 go_enter Tryz.func36,Tryz.ntmps36
 go_wp2_with (go_at_call 57;refine (hI.out).mono ?_;rintro e w' ⟨rfl,rfl⟩)
 go_ret
 exact ⟨ret_bool (by simp),rfl⟩
def rowC (m : Nat) (f : Nat → Int) : Array Value:=((List.range m).map fun i => Value.int .i64 (f i)).toArray
theorem rowC_get (m : Nat) (f : Nat → Int) (i : Nat) (h : i < m) : (rowC m f)[i]? = some (.int .i64 (f i)):=by
 unfold rowC
 rw [List.getElem?_toArray,List.getElem?_map,List.getElem?_range h];rfl
theorem rowC_size (m : Nat) (f : Nat → Int) : (rowC m f).size = m:=by simp [rowC]
theorem rowC_set (m : Nat) (f : Nat → Int) (p : Nat) (x : Int) : (rowC m f).setIfInBounds p (.int .i64 x) = rowC m (fun i => if i = p then x else f i):=by
 apply Array.ext_getElem?
 intro i
 rw [Array.getElem?_setIfInBounds]
 by_cases hi : p = i
 · subst hi
   rw [if_pos rfl,rowC_size]
   by_cases hp : p < m
   · rw [if_pos hp,rowC_get _ _ _ hp];simp
   · rw [if_neg hp,Array.getElem?_eq_none (by rw [rowC_size];omega)]
 · rw [if_neg hi]
   by_cases hl : i < m
   · have : ¬ i = p:=fun e => hi e.symm
     rw [rowC_get _ _ _ hl,rowC_get _ _ _ hl];simp [this]
   · rw [Array.getElem?_eq_none (by rw [rowC_size];omega),Array.getElem?_eq_none (by rw [rowC_size];omega)]
theorem rowC_zero (m : Nat) : (madeCells #[.int .i64 0] m) = rowC m (fun _ => 0):=by
 apply Array.toList_inj.1
 rw [toList_madeCells_one]
 simp [rowC,List.map_const']
theorem int_info : (Tryz.prog.info? 3).map (fun i => (i.zero,i.size,i.bytes)) = some (some (.int .i64 0),1,8):=by kernel_rfl
theorem make_ints (m : Nat) (h : m ≤ 1000000) (w : World) :
    (Instr.makeSlice 53 (.int .i64 (m : Int)) (.int .i64 (m : Int))).run Tryz.prog w = .ok (.slice (some ⟨w.heap.size,0,none⟩) m m) (w.alloc (.cells (rowC m (fun _ => 0)) 3)):=by
 obtain ⟨i,hi,hh⟩:=Option.map_eq_some_iff.1 int_info
 simp only [Prod.mk.injEq] at hh
 obtain ⟨h1,h2,h3⟩:=hh
 have hr:=run_make (P:=Tryz.prog) w 53 3 i (.int .i64 0) Tryz.underlying53 hi h1 .i64 .i64 (m : Int) (m : Int) (by omega) (Int.le_refl _) (by rw [h3];omega) (by omega)
 rw [hr,h2]
 simp only [Int.toNat_natCast,Nat.mul_one]
 rw [show (Value.int .i64 0).cells = #[.int .i64 0] from rfl,rowC_zero]
theorem Held.rowVals {w : World} {g m : Nat} {t : TypeId} {f : Nat → Int} (h : Held w g t (rowC m f)) (k : Nat) (hk : k ≤ m) : Vals w (g + 1) (some ⟨g,0,none⟩) (((List.range k).map f).map (Value.int .i64)):=by
 intro j hj
 have hj' : j < k:=by simpa using hj
 refine ⟨_,rfl,Nat.lt_succ_self _,?_⟩
 rw [add_zero_off,h.at_ (rowC_get m f j (by omega))]
 simp
theorem Held.rowVals1 {w : World} {g m : Nat} {t : TypeId} {f : Nat → Int} (h : Held w g t (rowC (m + 1) f)) : Vals w (g + 1) (some ⟨g,1,none⟩) (((List.range m).map fun i => f (i + 1)).map (Value.int .i64)):=by
 intro j hj
 have hj' : j < m:=by simpa using hj
 refine ⟨_,rfl,Nat.lt_succ_self _,?_⟩
 rw [Addr.add_mid,Nat.add_comm,h.at_ (rowC_get (m + 1) f (j + 1) (by omega))]
 simp
def cntI (l : List Int) (i : Nat) : Int:=(l.countP (fun x => decide (x = (i : Int))) : Nat)
theorem cntI_nil (i : Nat) : cntI [] i = 0:=rfl
theorem cntI_snoc (l : List Int) (p : Nat) (i : Nat) : cntI (l ++ [(p : Int)]) i = if i = p then cntI l p + 1 else cntI l i:=by
 unfold cntI
 rw [List.countP_append]
 by_cases h : i = p
 · subst h;simp
 · have : ¬ (p : Int) = (i : Int):=by omega
   simp [h,this]
theorem cntI_le (l : List Int) (i : Nat) : 0 ≤ cntI l i ∧ cntI l i ≤ l.length:=by
 unfold cntI
 have:=List.countP_le_length (p:=fun x => decide (x = (i : Int))) (l:=l)
 omega
def usesN (ns : List Nod) : Nat → Int:=cntI (ns.flatMap partsN)
def grpsN (ns : List Nod) : Nat → Int:=cntI ((ns.filter fun n => decide (n.kind = 5)).map Nod.grp)
theorem partsN_len (n : Nod) : (partsN n).length ≤ 2:=by unfold partsN;split <;> (try split) <;> simp
theorem flat_len (ns : List Nod) : (ns.flatMap partsN).length ≤ 2 * ns.length:=by
 induction ns with
 | nil => simp
 | cons n ns ih => have:=partsN_len n;simp only [List.flatMap_cons,lla,List.length_cons];omega
theorem grp_len (ns : List Nod) : ((ns.filter fun n => decide (n.kind = 5)).map Nod.grp).length ≤ ns.length:=by
 rw [List.length_map];exact List.length_filter_le _ _
noncomputable def rightN (ns : List Nod) (g : Int) : Bool :=
 (decide (1 ≤ ns.length) && decide (ns.length ≤ 1000) && decide (0 ≤ g) && decide (g ≤ 9)) &&
  (@decide (∀ k (hk : k < ns.length),fitsN (ns[k]'hk) (k : Int) g = true) (Classical.propDecidable _) &&
  (onceL ((List.range (ns.length - 1)).map (usesN ns)) && onceL ((List.range g.toNat).map fun i => grpsN ns (i + 1))))
theorem rightN_size {ns : List Nod} {g : Int} (h : ¬ (1 ≤ ns.length ∧ ns.length ≤ 1000 ∧ 0 ≤ g ∧ g ≤ 9)) : rightN ns g = false:=by
 unfold rightN
 have : (decide (1 ≤ ns.length) && decide (ns.length ≤ 1000) && decide (0 ≤ g) && decide (g ≤ 9)) = false:=by
  rw [Bool.eq_false_iff]
  intro e
  simp only [Bool.and_eq_true,decide_eq_true_eq] at e
  exact h ⟨e.1.1.1,e.1.1.2,e.1.2,e.2⟩
 rw [this];rfl
theorem rightN_fits {ns : List Nod} {g : Int} {k : Nat} (hk : k < ns.length) (h : fitsN (ns[k]'hk) (k : Int) g = false) : rightN ns g = false:=by
 unfold rightN
 have : @decide (∀ k (hk : k < ns.length),fitsN (ns[k]'hk) (k : Int) g = true) (Classical.propDecidable _) = false:=by
  refine @decide_eq_false _ (Classical.propDecidable _) fun e => ?_
  rw [e k hk] at h;cases h
 rw [this];simp
theorem rightN_end {ns : List Nod} {g : Int} (h : 1 ≤ ns.length ∧ ns.length ≤ 1000 ∧ 0 ≤ g ∧ g ≤ 9) (hf : ∀ k (hk : k < ns.length),fitsN (ns[k]'hk) (k : Int) g = true) :
    rightN ns g = (onceL ((List.range (ns.length - 1)).map (usesN ns)) && onceL ((List.range g.toNat).map fun i => grpsN ns (i + 1))):=by
 unfold rightN
 rw [@decide_eq_true _ (Classical.propDecidable _) hf,decide_eq_true h.1,decide_eq_true h.2.1,decide_eq_true h.2.2.1,decide_eq_true h.2.2.2];simp
theorem fits_part {n : Nod} {t g p : Int} (h : fitsN n t g = true) (hp : p ∈ partsN n) : 0 ≤ p ∧ p < t:=by
 unfold fitsN at h
 rw [Bool.and_eq_true,List.all_eq_true] at h
 have:=h.1 p hp
 simpa [okP] using this
theorem fits_grp {n : Nod} {t g : Int} (h : fitsN n t g = true) (hk : n.kind = 5) : 1 ≤ n.grp ∧ n.grp ≤ g:=by
 unfold fitsN at h
 simp only [Bool.and_eq_true,Bool.or_eq_true,decide_eq_true_eq] at h
 rcases h.2.2.1 with h1 | h1
 · exact absurd hk h1.1
 · exact h1
theorem right_small (A : Option Addr) (n c : Nat) (ns : List Nod) (g : Int) (w : World) (hn : n = ns.length) (hm : n ≤ maxLen) (h : ¬ (1 ≤ ns.length ∧ ns.length ≤ 1000 ∧ 0 ≤ g ∧ g ≤ 9)) :
    Calls Tryz.prog 19 #[.agg #[.slice A n c,.int .i64 g]] w fun e w' => e = .returned (.bool false) ∧ Below w.heap.size w w':=by
 unfold maxLen at hm
 have hb:=lhi ((Below.refl w.heap.size w).alloc (nlr _) (.cells #[.slice A n c,.int .i64 g] 26))
 rw [← hn] at h
 clear hn
 by_cases h1 : n < 1
 · clear h
   go_enter Tryz.func19,Tryz.ntmps19
   go_wp2
   go_ret
   exact ⟨rfl,hb.out⟩
 by_cases h2 : 1000 < n
 · clear h
   go_enter Tryz.func19,Tryz.ntmps19
   go_wp2
   go_ret
   exact ⟨rfl,hb.out⟩
 by_cases h3 : g < 0
 · clear h
   go_enter Tryz.func19,Tryz.ntmps19
   go_wp2
   go_ret
   exact ⟨rfl,hb.out⟩
 by_cases h4 : 9 < g
 · clear h
   go_enter Tryz.func19,Tryz.ntmps19
   go_wp2
   go_ret
   exact ⟨rfl,hb.out⟩
 · exact absurd ⟨by omega,by omega,by omega,by omega⟩ h
def RelRt (W : World) (ns : List Nod) (g n : Nat) (rv : Array Value) (i : Value) (wr : World) : Prop :=
 ∃ k : Nat,k ≤ n ∧ i = .int .i64 (k : Nat) ∧ (∀ j (hj : j < ns.length),j < k → fitsN (ns[j]'hj) (j : Int) (g : Int) = true) ∧ Held wr W.heap.size 26 rv ∧
  Held wr (W.heap.size + 1) 3 (rowC n (cntI ((ns.take k).flatMap partsN))) ∧ Held wr (W.heap.size + 2) 3 (rowC (g + 1) (grpsN (ns.take k))) ∧ Below W.heap.size W wr
theorem RelRt.mk {W : World} {ns : List Nod} {g n : Nat} {rv : Array Value} {i : Value} {wr : World} (h : ∃ k : Nat,k ≤ n ∧ i = .int .i64 (k : Nat) ∧ (∀ j (hj : j < ns.length),j < k → fitsN (ns[j]'hj) (j : Int) (g : Int) = true) ∧ Held wr W.heap.size 26 rv ∧
    Held wr (W.heap.size + 1) 3 (rowC n (cntI ((ns.take k).flatMap partsN))) ∧ Held wr (W.heap.size + 2) 3 (rowC (g + 1) (grpsN (ns.take k))) ∧ Below W.heap.size W wr) : RelRt W ns g n rv i wr:=h
theorem nod_zero_lit (w : World) : Held (w.alloc (.cells #[.int .i64 0,.int .i64 0,.int .i64 0,.int .i64 0,.int .i64 0,.int .i64 0,.int .u64 0,.int .u64 0,.int .u64 0,.int .u64 0] 43)) w.heap.size 43 #[.int .i64 0,.int .i64 0,.int .i64 0,.int .i64 0,.int .i64 0,.int .i64 0,.int .u64 0,.int .u64 0,.int .u64 0,.int .u64 0]:=held_new _ _ _
theorem held_new3 (w : World) (o1 o2 : Obj) (t : TypeId) (cs : Array Value) : Held (((w.alloc o1).alloc o2).alloc (.cells cs t)) (w.heap.size + 2) t cs:=by
 have:=held_new ((w.alloc o1).alloc o2) t cs
 rwa [show ((w.alloc o1).alloc o2).heap.size = w.heap.size + 2 by simp] at this
theorem grown_set (w : World) (p : Addr) (u : Value) : w.grownBy (w.setCell p u) (some p.block):=by
 have hb : Below 0 w (w.setCell p u):=(Below.refl 0 w).setCell (Nat.zero_le _) u
 exact ⟨hb.os,hb.tape,hb.output,hb.size,fun k _ hne => Below.heap_setCell w p u k (fun e => hne (by rw [e]))⟩
theorem grown_trans {w w1 w2 : World} {r : Option Nat} (h1 : w.grownBy w1 r) (h2 : w1.grownBy w2 r) : w.grownBy w2 r :=
 ⟨h2.os.trans h1.os,h2.tape.trans h1.tape,h2.output.trans h1.output,Nat.le_trans h1.size h2.size,fun k hk hne => (h2.block k (nll hk h1.size) hne).trans (h1.block k hk hne)⟩
theorem flat_snoc (ns : List Nod) (k : Nat) (h : k < ns.length) : (ns.take (k + 1)).flatMap partsN = (ns.take k).flatMap partsN ++ partsN (ns[k]'h):=by
 rw [List.take_succ_eq_append_getElem h,List.flatMap_append];simp
theorem grps_snoc (ns : List Nod) (k : Nat) (h : k < ns.length) (q : Nat) (hk : (ns[k]'h).kind = 5) (hq : (ns[k]'h).grp = (q : Int)) (i : Nat) : grpsN (ns.take (k + 1)) i = if i = q then grpsN (ns.take k) q + 1 else grpsN (ns.take k) i:=by
 unfold grpsN
 rw [List.take_succ_eq_append_getElem h,List.filter_append,List.map_append]
 simp only [List.filter_cons,hk,decide_true,if_true,List.filter_nil,List.map_cons,List.map_nil,hq]
 exact cntI_snoc _ q i
theorem grps_same (ns : List Nod) (k : Nat) (h : k < ns.length) (hk : (ns[k]'h).kind ≠ 5) : grpsN (ns.take (k + 1)) = grpsN (ns.take k):=by
 unfold grpsN
 rw [List.take_succ_eq_append_getElem h,List.filter_append,List.map_append]
 simp [hk]
def Rel2t (w5 : World) (B1 n m : Nat) (P l : List Int) (i : Value) (wr : World) : Prop :=
 ∃ j : Nat,j ≤ m ∧ i = .int .i64 (j : Nat) ∧ Held wr B1 3 (rowC n (cntI (P ++ l.take j))) ∧ w5.grownBy wr (some B1)
theorem Rel2t.mk {w5 : World} {B1 n m : Nat} {P l : List Int} {i : Value} {wr : World} (h : ∃ j : Nat,j ≤ m ∧ i = .int .i64 (j : Nat) ∧ Held wr B1 3 (rowC n (cntI (P ++ l.take j))) ∧ w5.grownBy wr (some B1)) : Rel2t w5 B1 n m P l i wr:=h
structure St (W w : World) (G : Nat) (nd : Nod) (rv r1 r2 : Array Value) : Prop where
 re : Held w W.heap.size 26 rv
 a : Held w (W.heap.size + 1) 3 r1
 b : Held w (W.heap.size + 2) 3 r2
 nd : Held w G 43 (nodC nd)
 low : Below W.heap.size W w
theorem St.below {W w w' : World} {G : Nat} {nd : Nod} {rv r1 r2 : Array Value} (h : St W w G nd rv r1 r2) (hb : Below w.heap.size w w') : St W w' G nd rv r1 r2 :=
 ⟨h.re.keep hb,h.a.keep hb,h.b.keep hb,h.nd.keep hb,h.low.trans (hb.mono h.low.size)⟩
theorem right_go (A : Option Addr) (n c : Nat) (ns : List Nod) (g : Nat) (B : Nat) (w : World) (hn : n = ns.length) (hnc : n ≤ c) (hm : c ≤ maxLen) (hB : B ≤ w.heap.size) (h : Nods w B A ns) (h1 : 1 ≤ n) (h2 : n ≤ 1000) (h3 : g ≤ 9) :
    Calls Tryz.prog 19 #[.agg #[.slice A n c,.int .i64 (g : Int)]] w fun e w' => e = .returned (.bool (rightN ns g)) ∧ Below w.heap.size w w':=by
 unfold maxLen at hm
 have hMk1:=make_ints n (by omega)
 have hMk2 : ∀ w,(Instr.makeSlice 53 (.int .i64 ((g : Int) + 1)) (.int .i64 ((g : Int) + 1))).run Tryz.prog w = .ok (.slice (some ⟨w.heap.size,0,none⟩) (g + 1) (g + 1)) (w.alloc (.cells (rowC (g + 1) (fun _ => 0)) 3)):=fun w => by
  have:=make_ints (g + 1) (by omega) w
  rwa [show ((g + 1 : Nat) : Int) = (g : Int) + 1 by omega] at this
 have hH:=lhi hn
 have hF:=lhi (fun nd (t : Int) w => fits_any nd t (g : Int) w)
 have hP:=lhi (fun nd w => parts_any nd w)
 have hh:=lhi h
 have hBB:=lhi hB
 clear hn h hB
 go_enter Tryz.func19,Tryz.ntmps19
 go_wp2
 clear hMk1 hMk2
 go_loopw [5,6,8,40] (fun _ _ _ i wr => RelRt w ns g n #[.slice A n c,.int .i64 (g : Int)] i wr) (fun _ _ _ i _ => n - (intOf i).toNat)
 case atStart =>
  exact RelRt.mk ⟨0,by omega,rfl,fun j hj h => absurd h (by omega),((held_new w _ _).alloc _).alloc _,(held_new2 w _ _ _).alloc _,held_new3 w _ _ _ _,(alloc2_below w _ _).alloc (by simp;omega) _⟩
 case round =>
  obtain ⟨k,hk,rfl,hfit,hRe,hR1,hR2,hb⟩:=hrel
  by_cases hlt : k < n
  · have hkl : k < ns.length:=by have:=hH.out;omega
    obtain ⟨ad,b,o,hA,hp,-,hd⟩:=(hh.out.below (hb.mono hBB.out)).at_ hkl
    subst hA
    have hfl:=lhi (flat_snoc ns k hkl)
    have hg5:=lhi (grps_snoc ns k hkl)
    have hgn:=lhi (grps_same ns k hkl)
    have hno:=lhi (fun h => rightN_fits (g:=(g : Int)) hkl h)
    have hyes:=lhi (fun (h : fitsN (ns[k]'hkl) (k : Int) (g : Int) = true) j (hj : j < ns.length) (hjk : j < k + 1) => show fitsN (ns[j]'hj) (j : Int) (g : Int) = true by
     rcases Nat.lt_or_ge j k with h1 | h1
     · exact hfit j hj h1
     · obtain rfl : j = k:=by omega
       exact h)
    have hPl:=lhi (flat_len (ns.take k))
    have hGl:=lhi (grp_len (ns.take k))
    rw [List.length_take] at hPl hGl
    clear hfit
    generalize ns[k]'hkl = nd at *
    have hS0:=lhi (show St w (wr.alloc (.cells (nodC nd) 43)) wr.heap.size nd _ _ _ from ⟨hRe.alloc _,hR1.alloc _,hR2.alloc _,held_new wr _ _,hb.alloc hb.size _⟩)
    replace hd:=lhi hd
    clear hRe hR1 hR2 hb
    generalize (ns.take k).flatMap partsN = P at *
    by_cases hft : fitsN nd (k : Int) (g : Int) = true
    · have hfp:=lhi (fun p hp => fits_part hft (p:=p) hp)
      have hfg:=lhi (fits_grp hft)
      have hy:=lhi (hyes.out hft)
      have hFk:=lhi (fun w => hF.out nd (k : Int) w)
      rw [hft] at hFk
      have hPk:=lhi (fun w => hP.out nd w)
      clear hno hyes hft hF hP
      go_wp2_with (first
       | (refine wpList_load_mid rfl 43 (.tmp 43) rfl b o rfl (nodL nd) _ hd.out under_nod rfl (nod_info nd) ?_)
       | (refine wpList_store_row rfl 43 (.tmp 6) (.tmp 44) rfl wr.heap.size (nodC nd) rfl rfl 43 _ (nod_zero_lit wr) (nod_size nd) rfl (nod_cells nd) ?_
          rw [World.setRow_alloc_new]
          generalize wr.alloc (.cells (nodC nd) 43) = w3 at *
          generalize wr.heap.size = G at *
          have hgc:=hS0.out.re.at_ (i:=1) rfl
          have hN3:=lhi hS0.out.nd)
       | (refine wpList_load_row rfl 43 (.tmp 6) rfl G rfl 43 _ (0,0) _ hN4.out under_nod rfl (nod_size nd) ?_)
       | (refine wpList_load_row rfl 43 (.tmp 6) rfl G rfl 43 _ (0,0) _ hN3.out under_nod rfl (nod_size nd) ?_)
       | (go_at_call 34;refine (hFk.out w3).mono ?_;rintro e w4 ⟨rfl,hb4⟩;have hS4:=lhi (hS0.out.below hb4);have hN4:=lhi hS4.out.nd;have hN4':=lhi hS4.out.b.lt)
       | (go_at_call 35;refine (hPk.out w4).mono ?_;rintro e w5 ⟨A2,m,c2,rfl,hm,hmc,hc2,hv,hnew,hb5⟩;have hml:=lhi hm;clear hm;have hS5:=lhi (hS4.out.below hb5)))
      clear hN3 hN4 hgc hFk hPk hS0 hS4 hd
      have hBw : w.heap.size + 1 < w4.heap.size:=by
       have:=hS5.out.a.lt
       have h4:=hb4.size
       have h5:=hN4'.out
       omega
      have hrow:=lhi (show ∀ ad,A2 = some ad → ad.block ≠ w.heap.size + 1 from fun ad e => by have:=hnew ad e;omega)
      clear hnew hBw hN4'
      replace hb4:=lhi hb4
      replace hb5:=lhi hb5
      go_loopw [8,54] (fun _ i wr2 => Rel2t w5 (w.heap.size + 1) n m P (partsN nd) i wr2) (fun _ i _ => m - (intOf i).toNat)
      case atStart => exact Rel2t.mk ⟨0,by omega,rfl,by simpa using hS5.out.a,World.grownBy.refl _ _⟩
      case round =>
       rename World => wr2
       obtain ⟨j,hj,rfl,hR2,hgr⟩:=hrel
       by_cases hjm : j < m
       · have hjl : j < (partsN nd).length:=by have:=hml.out;omega
         obtain ⟨ad2,hA2,hab,hd2⟩:=hv.at_ (k:=j) (by rw [List.length_map];exact hjl)
         subst hA2
         rw [List.getElem_map] at hd2
         have hd2' : wr2.cell? (ad2.add j) = some (.int .i64 ((partsN nd)[j]'hjl)):=by
          rw [World.cell?_of_block (hgr.block _ (by rw [block_add];exact hab) (fun e => hrow.out ad2 rfl (by rw [block_add] at e;exact (Option.some.inj e))))]
          exact hd2
         have hq:=hfp.out _ (List.getElem_mem hjl)
         have hsn:=lhi (show (partsN nd).take (j + 1) = (partsN nd).take j ++ [(partsN nd)[j]'hjl] from List.take_succ_eq_append_getElem hjl)
         have hpl2:=lhi (show ((partsN nd).take j).length ≤ 2 by rw [List.length_take];have:=partsN_len nd;omega)
         clear hd2
         generalize (partsN nd)[j]'hjl = p at *
         obtain ⟨q,rfl⟩:=Int.eq_ofNat_of_zero_le hq.1
         have hqn : q < n:=by have:=hq.2;omega
         have hqk : (0 : Int) ≤ (q : Int):=by omega
         have hqk2 : (q : Int) < (n : Int):=by omega
         have hcell:=hR2.at_ (rowC_get n _ q hqn)
         have hthaw:=hR2.thawed q
         have hle:=cntI_le (P ++ (partsN nd).take j) q
         have hPn:=hPl.out
         have hp2:=hpl2.out
         have hle2 : cntI (P ++ (partsN nd).take j) q ≤ 3000:=by
          have:=hle.2
          rw [lla] at this
          omega
         have hle1:=hle.1
         have hnext:=lhi (fun x => (hR2.put q (.int .i64 x)))
         have hset:=lhi (fun x => rowC_set n (cntI (P ++ (partsN nd).take j)) q x)
         have hcs:=lhi (cntI_snoc (P ++ (partsN nd).take j) q)
         have hgr':=lhi hgr
         clear hle hPn hp2 hR2 hq hgr
         generalize hcv : cntI (P ++ (partsN nd).take j) q = cv at *
         replace hcv:=lhi hcv
         go_wp2
         go_roundw
         case rel =>
          refine Rel2t.mk ⟨j + 1,by omega,by go_num,?_,?_⟩
          · have:=hnext.out (cv + 1)
            rw [hset.out] at this
            rw [hsn.out,← List.append_assoc]
            have e : cntI (P ++ (partsN nd).take j ++ [(q : Int)]) = fun i => if i = q then cv + 1 else cntI (P ++ (partsN nd).take j) i:=by
             funext i
             rw [hcs.out]
            rw [e]
            exact this
          · exact grown_trans hgr'.out (grown_set wr2 _ _)
         case measure => simp [intOf];omega
       · obtain rfl : j = m:=by omega
         rw [show (partsN nd).take j = partsN nd from List.take_of_length_le (by have:=hml.out;omega)] at hR2
         have e1 : ∀ {g' : Nat} {t : TypeId} {cs : Array Value},Held w5 g' t cs → t ≠ 3 → Held wr2 g' t cs:=fun h hne => h.grown hgr (fun e => Held.apart h hS5.out.a hne (Option.some.inj e))
         have hlow : Below w.heap.size w wr2:=hS5.out.low.grown hgr (hS5.out.low.size) (fun k e => by have:=Option.some.inj e;omega)
         have hS6:=lhi (show St w wr2 G nd _ (rowC n (cntI (P ++ partsN nd))) (rowC (g + 1) (grpsN (ns.take k))) from
          ⟨e1 hS5.out.re (by decide),hR2,hS5.out.b.grown hgr (fun e => by have:=Option.some.inj e;omega),e1 hS5.out.nd (by decide),hlow⟩)
         clear hS5 hgr hR2 e1 hlow hb4 hb5 hv hrow hml
         by_cases hk5 : nd.kind = 5
         · obtain ⟨hq1,hq2⟩:=hfg.out hk5
           obtain ⟨q,hq⟩ : ∃ q : Nat,nd.grp = (q : Int):=Int.eq_ofNat_of_zero_le (by omega)
           have hqg : q < g + 1:=by omega
           have c0 : wr2.cell? ⟨G,0,none⟩ = some (.int .i64 5):=by rw [← hk5];exact hS6.out.nd.at_ rfl
           have c5 : wr2.cell? ⟨G,5,none⟩ = some (.int .i64 (q : Int)):=by rw [← hq];exact hS6.out.nd.at_ rfl
           have cq:=hS6.out.b.at_ (rowC_get (g + 1) _ q hqg)
           have tq:=hS6.out.b.thawed q
           have hle:=cntI_le ((((ns.take k).filter fun n => decide (n.kind = 5)).map Nod.grp)) q
           have hle2 : grpsN (ns.take k) q ≤ 1000:=by have:=hGl.out;unfold grpsN;omega
           have hle1 : 0 ≤ grpsN (ns.take k) q:=hle.1
           have hi1 : (0 : Int) ≤ (q : Int):=by omega
           have hi2 : (q : Int) < (g : Int) + 1:=by omega
           have hi3 : (q : Int) < ((g + 1 : Nat) : Int):=by omega
           have hgq:=lhi (hg5.out q hk5 hq)
           clear hle hq hq1 hq2 hk5 hqg
           generalize hcv : grpsN (ns.take k) q = cv at *
           replace hcv:=lhi hcv
           go_wp2
           go_roundw
           case rel =>
            refine RelRt.mk ⟨k + 1,by omega,by go_num,hy.out,hS6.out.re.far (fun e => by have : w.heap.size = w.heap.size + 2:=e;omega) _,?_,?_,hS6.out.low.setCell (by show w.heap.size ≤ w.heap.size + 2;omega) _⟩
            · rw [hfl.out]
              exact hS6.out.a.far (fun e => by have : w.heap.size + 1 = w.heap.size + 2:=e;omega) _
            · have:=hS6.out.b.put q (.int .i64 (cv + 1))
              rw [rowC_set] at this
              have e : grpsN (ns.take (k + 1)) = fun i => if i = q then cv + 1 else grpsN (ns.take k) i:=by
               funext i
               rw [hgq.out]
              rw [e]
              exact this
           case measure => simp [intOf];omega
         · have c0 : wr2.cell? ⟨G,0,none⟩ = some (.int .i64 nd.kind):=hS6.out.nd.at_ rfl
           have hq5:=beq_no hk5
           have hgq:=lhi (hgn.out hk5)
           generalize nd.kind = kd at *
           clear hk5
           go_wp2
           go_roundw
           case rel =>
            refine RelRt.mk ⟨k + 1,by omega,by go_num,hy.out,hS6.out.re,?_,?_,hS6.out.low⟩
            · rw [hfl.out];exact hS6.out.a
            · rw [hgq.out];exact hS6.out.b
           case measure => simp [intOf];omega
    · have hft' : fitsN nd (k : Int) (g : Int) = false:=by simpa using hft
      have hf:=lhi (hno.out hft')
      have hFk:=lhi (fun w => hF.out nd (k : Int) w)
      rw [hft'] at hFk
      clear hno hyes hft hft' hF hP
      go_wp2_with (first
       | (refine wpList_load_mid rfl 43 (.tmp 43) rfl b o rfl (nodL nd) _ hd.out under_nod rfl (nod_info nd) ?_)
       | (refine wpList_store_row rfl 43 (.tmp 6) (.tmp 44) rfl wr.heap.size (nodC nd) rfl rfl 43 _ (nod_zero_lit wr) (nod_size nd) rfl (nod_cells nd) ?_
          rw [World.setRow_alloc_new]
          generalize wr.alloc (.cells (nodC nd) 43) = w3 at *
          generalize wr.heap.size = G at *
          have hgc:=hS0.out.re.at_ (i:=1) rfl
          have hN3:=lhi hS0.out.nd)
       | (refine wpList_load_row rfl 43 (.tmp 6) rfl G rfl 43 _ (0,0) _ hN3.out under_nod rfl (nod_size nd) ?_)
       | (go_at_call 34;refine (hFk.out w3).mono ?_;rintro e w4 ⟨rfl,hb4⟩;have hS4:=lhi (hS0.out.below hb4)))
      go_ret
      exact ⟨ret_bool hf.out.symm,hS4.out.low⟩
  · obtain rfl : k = n:=by omega
    have hall : ∀ j (hj : j < ns.length),fitsN (ns[j]'hj) (j : Int) (g : Int) = true:=fun j hj => hfit j hj (by have:=hH.out;omega)
    have hr:=rightN_end (ns:=ns) (g:=(g : Int)) ⟨by rw [← hH.out];omega,by rw [← hH.out];omega,by omega,by omega⟩ hall
    rw [← hH.out,Int.toNat_natCast] at hr
    rw [show ns.take k = ns from List.take_of_length_le (by have:=hH.out;omega)] at hR1 hR2
    obtain ⟨m,rfl⟩ : ∃ m,k = m + 1:=⟨k - 1,by omega⟩
    rw [Nat.add_sub_cancel] at hr
    have hv1:=hR1.rowVals m (by omega)
    have hO1:=lhi (allOnce_any (some ⟨w.heap.size + 1,0,none⟩) m (m + 1) _ _ wr (by simp) (by omega) (by unfold maxLen;omega) hv1)
    have hv2:=hR2.rowVals1
    have hO2:=lhi (allOnce_any (some ⟨w.heap.size + 2,1,none⟩) g g _ _ wr (by simp) (by omega) (by unfold maxLen;omega) hv2)
    have hO3:=lhi (allOnce_any (some ⟨w.heap.size + 2,0,none⟩) 0 0 [] 0 wr (by simp) (by omega) (by unfold maxLen;omega) (Vals.none_ _ _ _))
    unfold usesN at hr
    have hl:=lhi hb
    clear hv1 hv2 hR1 hR2 hRe hb hF hP hh hfit hall hH hBB hnc hm h1
    generalize onceL ((List.range m).map (cntI (ns.flatMap partsN))) = b1 at *
    cases b1
    · rw [Bool.false_and] at hr
      replace hr:=lhi hr
      clear hO2 hO3
      go_wp2_with (first
       | (go_at_call 36;refine (hO1.out).mono ?_;rintro e w4 ⟨rfl,rfl⟩))
      go_ret
      exact ⟨ret_bool hr.out.symm,hl.out⟩
    · rw [Bool.true_and] at hr
      by_cases hg0 : g = 0
      · subst hg0
        rw [show onceL ((List.range 0).map fun i => grpsN ns (i + 1)) = true by rfl] at hr
        rw [show onceL [] = true by rfl] at hO3
        replace hr:=lhi hr
        clear hO2
        go_wp2_with (first
         | (go_at_call 36;(with_reducible refine (hO1.out).mono ?_);rintro e w4 ⟨rfl,rfl⟩)
         | (go_at_call 36;refine (hO3.out).mono ?_;rintro e w4 ⟨rfl,rfl⟩))
        go_ret
        exact ⟨ret_bool hr.out.symm,hl.out⟩
      · have hg1 : ¬ g + 1 = 1:=by omega
        generalize onceL ((List.range g).map fun i => grpsN ns (i + 1)) = b2 at *
        replace hr:=lhi hr
        clear hO3
        go_wp2_with (first
         | (go_at_call 36;(with_reducible refine (hO1.out).mono ?_);rintro e w4 ⟨rfl,rfl⟩)
         | (go_at_call 36;refine (hO2.out).mono ?_;rintro e w4 ⟨rfl,rfl⟩))
        go_ret
        exact ⟨ret_bool hr.out.symm,hl.out⟩
theorem right_any (A : Option Addr) (n c : Nat) (ns : List Nod) (g : Int) (B : Nat) (w : World) (hn : n = ns.length) (hnc : n ≤ c) (hm : c ≤ maxLen) (hB : B ≤ w.heap.size) (h : Nods w B A ns) :
    Calls Tryz.prog 19 #[.agg #[.slice A n c,.int .i64 g]] w fun e w' => e = .returned (.bool (rightN ns g)) ∧ Below w.heap.size w w':=by
 by_cases hs : 1 ≤ ns.length ∧ ns.length ≤ 1000 ∧ 0 ≤ g ∧ g ≤ 9
 · obtain ⟨q,rfl⟩:=Int.eq_ofNat_of_zero_le hs.2.2.1
   exact right_go A n c ns q B w hn hnc hm hB h (by omega) (by omega) (by omega)
 · rw [rightN_size hs]
   exact right_small A n c ns g w hn (by omega) hs
end Go.Proofs.YtonjnagcdnmcpaaGreatDoor
