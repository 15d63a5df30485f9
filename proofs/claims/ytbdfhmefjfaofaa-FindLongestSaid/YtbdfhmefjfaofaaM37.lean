/- Contracts and plain facts: M37. -/
import Derived.Test.YtbdfhmefjfaofaaM36
import Derived.Lib.ConvBytes
import Derived.Lib.SlBytesConst
import Derived.Deep.Slices
import Derived.Deep.Fields
import Derived.ChangeSame
import Derived.Laws.IdiomArrays
set_option linter.unusedVariables false
set_option linter.unusedSimpArgs false
set_option maxRecDepth 100000
set_option maxHeartbeats 32000000
namespace Go.Proofs.Ytbdfhmefjfaofaa
open Go.RowKit Go.Shelf
attribute [local go_sem] Oper.semAt_some
section
variable {w : World} {B : Nat} {A A2 : Option Addr} {n c n2 c2 : Nat} {ns : List Nod} {t : List UInt8} {g : Int}
theorem all_bad1 (fuel : Int) (h : AtIn w B A n c A2 n2 c2 ns t) (h1 : rightN ns g = false) :
    Calls Try.prog 17 #[.agg #[.slice A n c,.int .i64 g],.slice A2 n2 c2,.int .i64 fuel] w fun e w' => AllQ w ns g t fuel e w' ∧ Below w.heap.size w w':=by
 have hbad:=lhi (show ¬ (rightN ns g = true ∧ 0 ≤ fuel) from (by rintro ⟨q,-⟩;rw [h1] at q;cases q))
 have hb0:=lhi (((Below.refl w.heap.size w).alloc (nlr _) (.cells #[.slice A n c,.int .i64 g] 24)).alloc (by simp) (.cells #[.slice none 0 0] 42))
 have hRt:=lhi (fun w' (hb : Below w.heap.size w w') => right_any A n c ns g B w' h.hn h.hnc h.hcm (Nat.le_trans h.base hb.size) (h.nods.below (hb.mono h.base)))
 rw [h1] at hRt
 have hRs:=lhi (held_new2 w (.cells #[.slice A n c,.int .i64 g] 24) 42 #[.slice none 0 0])
 have d0:=True.intro
 clear h h1
 go_enter Try.func17,Try.ntmps17
 go_wp2_with (first
  | (go_at_call 21;refine (hRt.out _ hb0.out).mono ?_;rintro e w1 ⟨rfl,hb1⟩;have hRs1:=lhi (hRs.out.keep hb1);have c1 : w1.cell? ⟨w.heap.size + 1,0,none⟩ = some (.slice none 0 0):=hRs1.out.at_ rfl;have t1:=hRs1.out.thawed 0;have hb2:=lhi (hb0.out.trans (hb1.mono hb0.out.size));clear hb1))
 exact bodyPost_ret (results_cell3S Try.results17 _ _ (w.heap.size + 1) _ rfl rfl rfl ((hRs1.out.put 0 (.slice none 0 0)).at_ rfl)) rfl ⟨.inl ⟨hbad.out,rfl⟩,hb2.out.setCell (p:=⟨w.heap.size + 1,0,none⟩) (by show w.heap.size ≤ w.heap.size + 1;omega) _⟩
theorem all_bad2 (fuel : Int) (h : AtIn w B A n c A2 n2 c2 ns t) (h1 : rightN ns g = true) (h2 : fuel < 0) :
    Calls Try.prog 17 #[.agg #[.slice A n c,.int .i64 g],.slice A2 n2 c2,.int .i64 fuel] w fun e w' => AllQ w ns g t fuel e w' ∧ Below w.heap.size w w':=by
 have hbad:=lhi (show ¬ (rightN ns g = true ∧ 0 ≤ fuel) from (by rintro ⟨-,q⟩;omega))
 have hb0:=lhi (((Below.refl w.heap.size w).alloc (nlr _) (.cells #[.slice A n c,.int .i64 g] 24)).alloc (by simp) (.cells #[.slice none 0 0] 42))
 have hRt:=lhi (fun w' (hb : Below w.heap.size w w') => right_any A n c ns g B w' h.hn h.hnc h.hcm (Nat.le_trans h.base hb.size) (h.nods.below (hb.mono h.base)))
 rw [h1] at hRt
 have hRs:=lhi (held_new2 w (.cells #[.slice A n c,.int .i64 g] 24) 42 #[.slice none 0 0])
 have d1 : decide (fuel < 0) = true:=decide_eq_true h2
 clear h h1
 go_enter Try.func17,Try.ntmps17
 go_wp2_with (first
  | (go_at_call 21;refine (hRt.out _ hb0.out).mono ?_;rintro e w1 ⟨rfl,hb1⟩;have hRs1:=lhi (hRs.out.keep hb1);have c1 : w1.cell? ⟨w.heap.size + 1,0,none⟩ = some (.slice none 0 0):=hRs1.out.at_ rfl;have t1:=hRs1.out.thawed 0;have hb2:=lhi (hb0.out.trans (hb1.mono hb0.out.size));clear hb1))
 exact bodyPost_ret (results_cell3S Try.results17 _ _ (w.heap.size + 1) _ rfl rfl rfl ((hRs1.out.put 0 (.slice none 0 0)).at_ rfl)) rfl ⟨.inl ⟨hbad.out,rfl⟩,hb2.out.setCell (p:=⟨w.heap.size + 1,0,none⟩) (by show w.heap.size ≤ w.heap.size + 1;omega) _⟩
theorem findAll_any (fuel : Int) (h : AtIn w B A n c A2 n2 c2 ns t) (hf : fuel ≤ 999999) :
    Calls Try.prog 17 #[.agg #[.slice A n c,.int .i64 g],.slice A2 n2 c2,.int .i64 fuel] w fun e w' => AllQ w ns g t fuel e w' ∧ Below w.heap.size w w':=by
 cases h1 : rightN ns g with
 | false => exact all_bad1 fuel h h1
 | true =>
  by_cases h2 : fuel < 0
  · exact all_bad2 fuel h h1 h2
  · exact all_good fuel h h1 (by omega) hf
end
end Go.Proofs.Ytbdfhmefjfaofaa
namespace Go.Proofs.Ytbdfhmefjfaofaa
open Go.RowKit
def exM (s : Nat → Bool) : List Nod:=[⟨1,0,0,0,0,0,s⟩,⟨4,0,0,0,-1,0,zset⟩]
def f97 : Nat → Bool:=fun c => decide (c = 97)
theorem setC_97 : setC f97 = #[.int .u64 0,.int .u64 8589934592,.int .u64 0,.int .u64 0]:=by
 have h0 : wd f97 0 = 0:=by decide +kernel
 have h1 : wd f97 1 = 8589934592:=by decide +kernel
 have h2 : wd f97 2 = 0:=by decide +kernel
 have h3 : wd f97 3 = 0:=by decide +kernel
 unfold setC
 rw [h0,h1,h2,h3];rfl
theorem one97_any (w : World) : Calls Try.prog 20 #[.int .u8 97] w fun e w' => e = .returned (.agg (setC f97)) ∧ Below w.heap.size w w':=by
 rw [setC_97]
 go_enter Try.func20,Try.ntmps20
 go_wp2
 exact bodyPost_ret (results_cell_row Try.results20 _ _ w.heap.size 51 _ (0,0) _ rfl ((held_new w 51 _).alloc _) Try.underlying51 rfl (by kernel_rfl)) rfl ⟨rfl,((Below.refl w.heap.size w).alloc (nlr _) _).alloc (by simp) _⟩
theorem ex_fits0 (s : Nat → Bool) : fitsN ⟨1,0,0,0,0,0,s⟩ 0 0 = true:=by
 unfold fitsN
 rw [show partsN ⟨1,0,0,0,0,0,s⟩ = [] from rfl,show wantedN ⟨1,0,0,0,0,0,s⟩ = ⟨1,0,0,0,0,0,s⟩ from rfl,sameN_self]
 simp
theorem ex_fits1 : fitsN ⟨4,0,0,0,-1,0,zset⟩ 1 0 = true:=by
 unfold fitsN
 rw [show partsN ⟨4,0,0,0,-1,0,zset⟩ = [0] from rfl,show wantedN ⟨4,0,0,0,-1,0,zset⟩ = ⟨4,0,0,0,-1,0,zset⟩ from rfl,sameN_self]
 simp [okP,timesN]
theorem exM_right (s : Nat → Bool) : rightN (exM s) 0 = true:=by
 rw [rightN_end (by simp [exM])]
 · rfl
 · intro k hk
   match k,hk with
   | 0,_ => exact ex_fits0 s
   | 1,_ => exact ex_fits1
theorem ex_nods {w : World} {b : Nat} (h : Held w b 54 #[.int .i64 1,.int .i64 0,.int .i64 0,.int .i64 0,.int .i64 0,.int .i64 0,.int .u64 0,.int .u64 8589934592,.int .u64 0,.int .u64 0,.int .i64 4,.int .i64 0,.int .i64 0,.int .i64 0,.int .i64 (-1),.int .i64 0,.int .u64 0,.int .u64 0,.int .u64 0,.int .u64 0]) : Nods w (b + 1) (some ⟨b,0,none⟩) (exM f97):=fun k hk => by
 refine ⟨_,rfl,Nat.lt_succ_self _,fun j u hj => ?_⟩
 rw [add_zero_off]
 refine h.at_ ?_
 have hj10 : j < 10:=by have:=(List.getElem?_eq_some_iff.1 hj).1;rwa [nodL_len] at this
 have hs:=setC_97
 unfold setC at hs
 simp only [Array.mk.injEq,List.cons.injEq,Value.int.injEq,and_true,true_and] at hs
 obtain ⟨q0,q1,q2,q3⟩:=hs
 match k,hk with
 | 0,_ =>
  have e : nodL ((exM f97)[0]'(by decide)) = [.int .i64 1,.int .i64 0,.int .i64 0,.int .i64 0,.int .i64 0,.int .i64 0,.int .u64 0,.int .u64 8589934592,.int .u64 0,.int .u64 0]:=by
   show nodL ⟨1,0,0,0,0,0,f97⟩ = _
   unfold nodL
   simp only
   rw [q0,q1,q2,q3]
  rw [e] at hj
  have : j = 0 ∨ j = 1 ∨ j = 2 ∨ j = 3 ∨ j = 4 ∨ j = 5 ∨ j = 6 ∨ j = 7 ∨ j = 8 ∨ j = 9:=by omega
  rcases this with rfl | rfl | rfl | rfl | rfl | rfl | rfl | rfl | rfl | rfl <;> exact hj
 | 1,_ =>
  have e : nodL ((exM f97)[1]'(by decide)) = [.int .i64 4,.int .i64 0,.int .i64 0,.int .i64 0,.int .i64 (-1),.int .i64 0,.int .u64 0,.int .u64 0,.int .u64 0,.int .u64 0]:=by
   show nodL ⟨4,0,0,0,-1,0,zset⟩ = _
   unfold nodL
   simp only [zset_wd]
   rfl
  rw [e] at hj
  have : j = 0 ∨ j = 1 ∨ j = 2 ∨ j = 3 ∨ j = 4 ∨ j = 5 ∨ j = 6 ∨ j = 7 ∨ j = 8 ∨ j = 9:=by omega
  rcases this with rfl | rfl | rfl | rfl | rfl | rfl | rfl | rfl | rfl | rfl <;> exact hj
section
variable {s : Nat → Bool} {t : List UInt8}
theorem exn_rep (p : Pt) : nexts (exM s) t (.node 1) p = [([.node 0,.times 1 1 p.i],p),([],p)]:=by
 have n1 : ndA (exM s) 1 = ⟨4,0,0,0,-1,0,zset⟩:=rfl
 rw [next_rep (by rw [n1]),n1];rfl
theorem exn_yes (p : Pt) {c : UInt8} (hc : t[p.i]? = some c) (hs : s c.toNat = true) : nexts (exM s) t (.node 0) p = [([],⟨p.i + 1,p.sp⟩)]:=by
 have n0 : ndA (exM s) 0 = ⟨1,0,0,0,0,0,s⟩:=rfl
 rw [next_set (by rw [n0]) hc,n0]
 show (if s c.toNat = true then _ else _) = _
 rw [if_pos hs]
theorem exn_no (p : Pt) (h : ∀ c,t[p.i]? = some c → s c.toNat = false) : nexts (exM s) t (.node 0) p = []:=by
 have n0 : ndA (exM s) 0 = ⟨1,0,0,0,0,0,s⟩:=rfl
 cases hc : t[p.i]? with
 | none => exact next_set_end (by rw [n0]) (by simpa using hc)
 | some c =>
  rw [next_set (by rw [n0]) hc,n0]
  show (if s c.toNat = true then _ else _) = _
  rw [h c hc];rfl
theorem exn_on (k : Int) (q : Nat) (p : Pt) (h : p.i ≠ q) (hk : 0 ≤ k) : nexts (exM s) t (.times 1 k q) p = [([.node 0,.times 1 (k + 1) p.i],p),([],p)]:=by
 have n1 : ndA (exM s) 1 = ⟨4,0,0,0,-1,0,zset⟩:=rfl
 rw [next_on h,n1]
 show (if (-1 : Int) = -1 ∨ _ then _ else _) ++ (if (0 : Int) ≤ k then _ else _) = _
 rw [if_pos (.inl rfl),if_pos hk];rfl
theorem exn_none (p : Pt) (h : ∀ c,t[p.i]? = some c → s c.toNat = false) : Stk (exM s) t [([.node 1],p)] 2 [p] :=
 Stk.go2 (exn_rep p) (.go0 (exn_no p h)) (.hit p .nil)
theorem exn_two (p : Pt) (h1 : t[p.i]? = some 97) (h2 : t[p.i + 1]? = some 97) (hs : s 97 = true) (h3 : ∀ c,t[p.i + 2]? = some c → s c.toNat = false) : Stk (exM s) t [([.node 1],p)] 6 [⟨p.i + 2,p.sp⟩,⟨p.i + 1,p.sp⟩,p]:=by
 have hit : ∀ p : Pt,Stk (exM s) t [([],p)] 0 [p]:=fun p => .hit p .nil
 have e0 : Stk (exM s) t [([.node 0,.times 1 3 (p.i + 2)],⟨p.i + 2,p.sp⟩)] 1 []:=.go0 (exn_no ⟨p.i + 2,p.sp⟩ h3)
 have e1 : Stk (exM s) t [([.times 1 2 (p.i + 1)],⟨p.i + 2,p.sp⟩)] 2 [⟨p.i + 2,p.sp⟩]:=Stk.go2 (exn_on 2 (p.i + 1) ⟨p.i + 2,_⟩ (by show p.i + 2 ≠ p.i + 1;omega) (by decide)) e0 (hit _)
 have e2 : Stk (exM s) t [([.node 0,.times 1 2 (p.i + 1)],⟨p.i + 1,p.sp⟩)] 3 [⟨p.i + 2,p.sp⟩]:=Stk.go1 (exn_yes ⟨p.i + 1,_⟩ h2 hs) e1
 have e3 : Stk (exM s) t [([.times 1 1 p.i],⟨p.i + 1,p.sp⟩)] 4 [⟨p.i + 2,p.sp⟩,⟨p.i + 1,p.sp⟩]:=Stk.go2 (exn_on 1 p.i ⟨p.i + 1,_⟩ (by show p.i + 1 ≠ p.i;omega) (by decide)) e2 (hit _)
 have e4 : Stk (exM s) t [([.node 0,.times 1 1 p.i],p)] 5 [⟨p.i + 2,p.sp⟩,⟨p.i + 1,p.sp⟩]:=Stk.go1 (exn_yes p h1 hs) e3
 exact Stk.go2 (exn_rep p) e4 (hit _)
end
theorem ex_least (s : Nat → Bool) : leastNs (exM s) 0 = 0:=by
 unfold leastNs
 rw [if_pos (exM_right s)]
 rfl
theorem ex_last (s : Nat → Bool) : lastP (exM s) [98,97,97,99] 0 = 4:=by
 unfold lastP
 rw [ex_least]
 rfl
theorem ex_all (s : Nat → Bool) (h97 : s 97 = true) (h98 : s 98 = false) (h99 : s 99 = false) : ∃ left,All12 (exM s) [98,97,97,99] 1 4 0 (-1) 99 (some ([hitS 0 (pt0 0),hitS 1 ⟨3,(pt0 1).sp⟩,hitS 4 (pt0 4)],left)):=by
 have t0 : Told11 (exM s) [98,97,97,99] 1 0 99 (some (some (hitS 0 (pt0 0)),97)):=.fin (exn_none (pt0 0) (fun c hc => by cases hc;exact h98)) (by decide)
 have t1 : Told11 (exM s) [98,97,97,99] 1 1 97 (some (some (hitS 1 ⟨3,(pt0 1).sp⟩),91)):=.fin (exn_two (pt0 1) rfl rfl h97 (fun c hc => by cases hc;exact h99)) (by decide)
 have t3 : Told11 (exM s) [98,97,97,99] 1 3 91 (some (some (hitS 3 (pt0 3)),89)):=.fin (exn_none (pt0 3) (fun c hc => by cases hc;exact h99)) (by decide)
 have t4 : Told11 (exM s) [98,97,97,99] 1 4 89 (some (some (hitS 4 (pt0 4)),87)):=.fin (exn_none (pt0 4) (fun c hc => by cases hc)) (by decide)
 exact ⟨87,.take (b:=1) (by decide) t0 (by decide) (by decide) (.take (b:=3) (by decide) t1 (by decide) (by decide) (.drop (by decide) t3 (by decide) (.take (b:=5) (by decide) t4 (by decide) (by decide) (.ends (by decide)))))⟩
theorem ex_all_told (s : Nat → Bool) (h97 : s 97 = true) (h98 : s 98 = false) (h99 : s 99 = false) {x : Option (List Spn × Int)} (h : All12 (exM s) [98,97,97,99] 1 (lastP (exM s) [98,97,97,99] 0) 0 (-1) 99 x) : ∃ (m0 m1 m2 : Spn) (left : Int),x = some ([m0,m1,m2],left) ∧ m0 0 = (0,0) ∧ m1 0 = (1,3) ∧ m2 0 = (4,4):=by
 rw [ex_last] at h
 obtain ⟨left,hl⟩:=ex_all s h97 h98 h99
 exact ⟨_,_,_,left,hl.det h,rfl,rfl,rfl⟩
def AwkQ (e : Ending) (w' : World) : Prop:=∃ (G c : Nat) (left : Int),e = .returned (.tuple #[.slice (some ⟨G,0,none⟩) 3 c,.int .i64 left,.int .i64 0]) ∧ (w'.cell? ⟨G,0,none⟩ = some (.int .i64 0) ∧ w'.cell? ⟨G,1,none⟩ = some (.int .i64 0)) ∧ (w'.cell? ⟨G,20,none⟩ = some (.int .i64 1) ∧ w'.cell? ⟨G,21,none⟩ = some (.int .i64 3)) ∧ (w'.cell? ⟨G,40,none⟩ = some (.int .i64 4) ∧ w'.cell? ⟨G,41,none⟩ = some (.int .i64 4))
theorem awk_of {w w' : World} {e : Ending} (h : AllQ w (exM f97) 0 [98,97,97,99] 99 e w') : AwkQ e w':=by
 rcases h with ⟨h,-⟩ | ⟨-,h,-⟩ | ⟨-,xs,left,v,h,rfl,hrow⟩
 · exact absurd ⟨exM_right f97,by decide⟩ h
 · obtain ⟨m0,m1,m2,l,q,-⟩:=ex_all_told f97 (by decide) (by decide) (by decide) h
   cases q
 · obtain ⟨m0,m1,m2,l,q,e0,e1,e2⟩:=ex_all_told f97 (by decide) (by decide) (by decide) h
   simp only [Option.some.injEq,Prod.mk.injEq] at q
   obtain ⟨rfl,rfl⟩:=q
   have hlen : ([m0,m1,m2] : List Spn).length = 2 + 1:=rfl
   rw [hlen] at hrow
   obtain ⟨G,c,rfl⟩:=ownsRow_succ hrow
   have hat : ∀ j u,(hitsL [m0,m1,m2])[j]? = some u → j < 60 → w'.cell? ⟨G,j,none⟩ = some u:=fun j u hj hlt => by rw [hrow.cellAt j (by omega)];exact hj
   refine ⟨G,c,left,rfl,⟨hat 0 _ ?_ (by decide),hat 1 _ ?_ (by decide)⟩,⟨hat 20 _ ?_ (by decide),hat 21 _ ?_ (by decide)⟩,hat 40 _ ?_ (by decide),hat 41 _ ?_ (by decide)⟩
   · show some (Value.int .i64 (m0 0).1) = _;rw [e0]
   · show some (Value.int .i64 (m0 0).2) = _;rw [e0]
   · show some (Value.int .i64 (m1 0).1) = _;rw [e1]
   · show some (Value.int .i64 (m1 0).2) = _;rw [e1]
   · show some (Value.int .i64 (m2 0).1) = _;rw [e2]
   · show some (Value.int .i64 (m2 0).2) = _;rw [e2]
theorem ex_callA (w : World) (b : Nat) (h : Held w b 54 #[.int .i64 1,.int .i64 0,.int .i64 0,.int .i64 0,.int .i64 0,.int .i64 0,.int .u64 0,.int .u64 8589934592,.int .u64 0,.int .u64 0,.int .i64 4,.int .i64 0,.int .i64 0,.int .i64 0,.int .i64 (-1),.int .i64 0,.int .u64 0,.int .u64 0,.int .u64 0,.int .u64 0]) : Calls Try.prog 17 #[.agg #[.slice (some ⟨b,0,none⟩) 2 2,.int .i64 0],.slice (some ⟨w.heap.size,0,none⟩) 4 4,.int .i64 99] (w.alloc (.cells #[.int .u8 98,.int .u8 97,.int .u8 97,.int .u8 99] 5 (4,5))) fun e w' => AwkQ e w' ∧ Below w.heap.size w w':=by
 have hb:=(Below.refl w.heap.size w).alloc (nlr _) (.cells #[.int .u8 98,.int .u8 97,.int .u8 97,.int .u8 99] 5 (4,5))
 have hby:=byt_new w [98,97,97,99] 5 (4,5)
 have hlt:=h.lt
 refine (findAll_any (B:=w.heap.size + 1) (ns:=exM f97) (t:=[98,97,97,99]) 99 ⟨rfl,by decide,by decide,by simp,((ex_nods h).below (hb.mono (by omega))).more (by omega),rfl,by decide,by decide,by decide,hby⟩ (by decide)).mono fun e w' ⟨h1,h2⟩ => ⟨awk_of h1,hb.trans (h2.mono (by simp))⟩
theorem awake12_any (w : World) : Calls Try.prog 14 #[] w fun e w' => e = .returned (.bool true) ∧ Below w.heap.size w w':=by
 have hO:=one97_any w
 rw [setC_97] at hO
 replace hO:=lhi hO
 have hE0 : ∀ w,(binOp .eql 28 (.agg #[.int .i64 0,.int .i64 0]) (.agg #[.int .i64 0,.int .i64 0])).run Try.prog w = .ok (.bool true) w:=fun w => by
  have:=span_eql w (0,0) (0,0)
  unfold spnV at this
  exact this
 have hG0 : ∀ op p q w,(eqGuard op 28 p q (.agg #[.int .i64 0,.int .i64 0]) (.agg #[.int .i64 0,.int .i64 0])).run Try.prog w = .ok () w:=fun op p q w => span_guard w op p q (0,0) (0,0)
 have hE1 : ∀ w,(binOp .eql 28 (.agg #[.int .i64 1,.int .i64 3]) (.agg #[.int .i64 1,.int .i64 3])).run Try.prog w = .ok (.bool true) w:=fun w => by
  have:=span_eql w (1,3) (1,3)
  unfold spnV at this
  exact this
 have hG1 : ∀ op p q w,(eqGuard op 28 p q (.agg #[.int .i64 1,.int .i64 3]) (.agg #[.int .i64 1,.int .i64 3])).run Try.prog w = .ok () w:=fun op p q w => span_guard w op p q (1,3) (1,3)
 have hE2 : ∀ w,(binOp .eql 28 (.agg #[.int .i64 4,.int .i64 4]) (.agg #[.int .i64 4,.int .i64 4])).run Try.prog w = .ok (.bool true) w:=fun w => by
  have:=span_eql w (4,4) (4,4)
  unfold spnV at this
  exact this
 have hG2 : ∀ op p q w,(eqGuard op 28 p q (.agg #[.int .i64 4,.int .i64 4]) (.agg #[.int .i64 4,.int .i64 4])).run Try.prog w = .ok () w:=fun op p q w => span_guard w op p q (4,4) (4,4)
 have kc:=fun (w : World) (C : Array Value) (n c : Nat) => Lib.run_convert_bytes_const (P:=Try.prog) w 25 5 C n c Try.underlying25 Try.underlying5
 go_enter Try.func14,Try.ntmps14
 go_upto_region 2 with (go_at_call 20;refine (hO.out).mono ?_;rintro e w1 ⟨rfl,hb1⟩;have hN:=lhi ((held_new w1 54 #[.int .i64 1,.int .i64 0,.int .i64 0,.int .i64 0,.int .i64 0,.int .i64 0,.int .u64 0,.int .u64 8589934592,.int .u64 0,.int .u64 0,.int .i64 4,.int .i64 0,.int .i64 0,.int .i64 0,.int .i64 (-1),.int .i64 0,.int .u64 0,.int .u64 0,.int .u64 0,.int .u64 0]).alloc (.cells #[.slice (some ⟨w1.heap.size,0,none⟩) 2 2,.int .i64 0] 24));have hR2:=lhi (held_new2 w1 (.cells #[.int .i64 1,.int .i64 0,.int .i64 0,.int .i64 0,.int .i64 0,.int .i64 0,.int .u64 0,.int .u64 8589934592,.int .u64 0,.int .u64 0,.int .i64 4,.int .i64 0,.int .i64 0,.int .i64 0,.int .i64 (-1),.int .i64 0,.int .u64 0,.int .u64 0,.int .u64 0,.int .u64 0] 54) 24 #[.slice (some ⟨w1.heap.size,0,none⟩) 2 2,.int .i64 0]);have hb2:=lhi ((hb1.alloc hb1.size (.cells #[.int .i64 1,.int .i64 0,.int .i64 0,.int .i64 0,.int .i64 0,.int .i64 0,.int .u64 0,.int .u64 8589934592,.int .u64 0,.int .u64 0,.int .i64 4,.int .i64 0,.int .i64 0,.int .i64 0,.int .i64 (-1),.int .i64 0,.int .u64 0,.int .u64 0,.int .u64 0,.int .u64 0] 54)).alloc (by have:=hb1.size;simp;omega) (.cells #[.slice (some ⟨w1.heap.size,0,none⟩) 2 2,.int .i64 0] 24));clear hb1)
 generalize (w1.alloc (.cells #[.int .i64 1,.int .i64 0,.int .i64 0,.int .i64 0,.int .i64 0,.int .i64 0,.int .u64 0,.int .u64 8589934592,.int .u64 0,.int .u64 0,.int .i64 4,.int .i64 0,.int .i64 0,.int .i64 0,.int .i64 (-1),.int .i64 0,.int .u64 0,.int .u64 0,.int .u64 0,.int .u64 0] 54)).alloc (.cells #[.slice (some ⟨w1.heap.size,0,none⟩) 2 2,.int .i64 0] 24) = w2 at *
 generalize w1.heap.size = b1 at *
 have hCl:=lhi (ex_callA w2 b1 hN.out)
 have z0 : w2.cell? ⟨b1 + 1,0,none⟩ = some (.slice (some ⟨b1,0,none⟩) 2 2):=hR2.out.at_ rfl
 have z1 : w2.cell? ⟨b1 + 1,1,none⟩ = some (.int .i64 0):=hR2.out.at_ rfl
 clear hN hR2 hO
 go_wp2_with (first
  | (go_at_call 17;refine (hCl.out).mono ?_;rintro e w3 ⟨⟨G,cc,left,rfl,⟨g0,g1⟩,⟨g2,g3⟩,g4,g5⟩,hb3⟩;have hb4:=lhi (hb2.out.trans (hb3.mono hb2.out.size));clear hb3))
 go_ret
 exact ⟨rfl,hb4.out⟩
end Go.Proofs.Ytbdfhmefjfaofaa
namespace Go.Proofs.Ytbdfhmefjfaofaa
open Go.ChangeShapes Go.WideShapes Go.Deep Go.RowKit
theorem cells_set : Try.prog.cellsOf 51 = 4:=by kernel_rfl
theorem cells_u64 : Try.prog.cellsOf 49 = 1:=by kernel_rfl
theorem nat_u64 {x : Int} (h : (Lit.int .u64 x).wf = true) : ∃ y : Nat,x = (y : Int) ∧ y < 18446744073709551616:=by
 have hb:=bounds_u64 h
 obtain ⟨y,rfl⟩:=Int.eq_ofNat_of_zero_le hb.1
 exact ⟨y,rfl,by omega⟩
section
variable {H : Type} {enc : TypeId × Value → H} {W : World} {held : Bool}
theorem set_trod {fuel : Nat} {c0 c1 c2 c3 : Value} {x : DataW H × List MemPlace} (h : DataW.trod enc Try.prog W 0 (fun _ => true) held fuel 51 [c0,c1,c2,c3] = some x) :
    ∃ f : Nat → Bool,c0 = .int .u64 ((wd f 0 : Nat) : Int) ∧ c1 = .int .u64 ((wd f 1 : Nat) : Int) ∧ c2 = .int .u64 ((wd f 2 : Nat) : Int) ∧ c3 = .int .u64 ((wd f 3 : Nat) : Int):=by
 obtain ⟨y0,y1,y2,y3,m,-,h0,h1,h2,h3⟩:=trod_array4 Try.underlying51 cells_u64 h
 obtain ⟨x0,e0,-,w0⟩:=DataW.trod_int Try.underlying49 h0
 obtain ⟨x1,e1,-,w1⟩:=DataW.trod_int Try.underlying49 h1
 obtain ⟨x2,e2,-,w2⟩:=DataW.trod_int Try.underlying49 h2
 obtain ⟨x3,e3,-,w3⟩:=DataW.trod_int Try.underlying49 h3
 obtain ⟨n0,rfl,b0⟩:=nat_u64 w0
 obtain ⟨n1,rfl,b1⟩:=nat_u64 w1
 obtain ⟨n2,rfl,b2⟩:=nat_u64 w2
 obtain ⟨n3,rfl,b3⟩:=nat_u64 w3
 obtain ⟨f,g0,g1,g2,g3⟩:=set_of n0 n1 n2 n3 b0 b1 b2 b3
 simp only [List.cons.injEq,and_true] at e0 e1 e2 e3
 exact ⟨f,by rw [g0];exact e0,by rw [g1];exact e1,by rw [g2];exact e2,by rw [g3];exact e3⟩
end
end Go.Proofs.Ytbdfhmefjfaofaa
