/- Contracts and plain facts: M37. -/
import Derived.Test.YtbdfhmefjfaofaaM36
import Derived.Lib.ConvBytes
import Derived.Lib.SlBytesConst
set_option linter.unusedVariables false
set_option linter.unusedSimpArgs false
set_option maxRecDepth 100000
set_option maxHeartbeats 32000000
namespace Go.Proofs.Ytbdfhmefjfaofaa
open Go.RowKit
def f97 : Nat → Bool:=fun c => decide (c = 97)
theorem setC_97 : setC f97 = #[.int .u64 0,.int .u64 8589934592,.int .u64 0,.int .u64 0]:=by
 have h0 : wd f97 0 = 0:=by decide +kernel
 have h1 : wd f97 1 = 8589934592:=by decide +kernel
 have h2 : wd f97 2 = 0:=by decide +kernel
 have h3 : wd f97 3 = 0:=by decide +kernel
 unfold setC
 rw [h0,h1,h2,h3];rfl
theorem one97_any (w : World) : Calls Try.prog 20 #[.int .u8 97] w fun e w' => e = .returned (.agg (setC f97)) ∧ Below w.heap.size w w':=by
 rw [setC_97]
 go_enter Try.func20,Try.ntmps20
 go_wp2
 exact bodyPost_ret (results_cell_row Try.results20 _ _ w.heap.size 51 _ (0,0) _ rfl ((held_new w 51 _).alloc _) Try.underlying51 rfl (by kernel_rfl)) rfl ⟨rfl,((Below.refl w.heap.size w).alloc (nlr _) _).alloc (by simp) _⟩
def exM (s : Nat → Bool) : List Nod:=[⟨1,0,0,0,0,0,s⟩,⟨4,0,0,0,-1,0,zset⟩]
theorem ex_stk (s : Nat → Bool) (h97 : s 97 = true) (h98 : s 98 = false) : Stk (exM s) [97,97,98] [([.node 1],pt0 0)] 6 [⟨2,(pt0 0).sp⟩,⟨1,(pt0 0).sp⟩,pt0 0]:=by
 have n0 : ndA (exM s) 0 = ⟨1,0,0,0,0,0,s⟩:=rfl
 have n1 : ndA (exM s) 1 = ⟨4,0,0,0,-1,0,zset⟩:=rfl
 have r : ∀ p : Pt,nexts (exM s) [97,97,98] (.node 1) p = [([.node 0,.times 1 1 p.i],p),([],p)]:=fun p => by
  rw [next_rep (by rw [n1]),n1];rfl
 have ra : ∀ p : Pt,p.i < 2 → nexts (exM s) [97,97,98] (.node 0) p = [([],⟨p.i + 1,p.sp⟩)]:=fun p hp => by
  have hc : ([97,97,98] : List UInt8)[p.i]? = some 97:=by
   obtain ⟨i,sp⟩:=p
   have : i = 0 ∨ i = 1:=by simp at hp;omega
   rcases this with rfl | rfl <;> rfl
  rw [next_set (by rw [n0]) hc,n0]
  show (if s 97 = true then _ else _) = _
  rw [if_pos h97]
 have rb : ∀ sp : Spn,nexts (exM s) [97,97,98] (.node 0) ⟨2,sp⟩ = []:=fun sp => by
  rw [next_set (by rw [n0]) (c:=98) rfl,n0]
  show (if s 98 = true then _ else _) = _
  rw [h98];rfl
 have on : ∀ (k : Int) (q : Nat) (p : Pt),p.i ≠ q → 0 ≤ k → nexts (exM s) [97,97,98] (.times 1 k q) p = [([.node 0,.times 1 (k + 1) p.i],p),([],p)]:=fun k q p h hk => by
  rw [next_on h,n1]
  show (if (-1 : Int) = -1 ∨ _ then _ else _) ++ (if (0 : Int) ≤ k then _ else _) = _
  rw [if_pos (.inl rfl),if_pos hk];rfl
 have e0 : Stk (exM s) [97,97,98] [([.node 0,.times 1 3 2],⟨2,(pt0 0).sp⟩)] 1 []:=.go0 (rb _)
 have hit : ∀ p : Pt,Stk (exM s) [97,97,98] [([],p)] 0 [p]:=fun p => .hit p .nil
 have e1 : Stk (exM s) [97,97,98] [([.times 1 2 1],⟨2,(pt0 0).sp⟩)] 2 [⟨2,(pt0 0).sp⟩]:=Stk.go2 (on 2 1 ⟨2,_⟩ (by decide) (by decide)) e0 (hit _)
 have e2 : Stk (exM s) [97,97,98] [([.node 0,.times 1 2 1],⟨1,(pt0 0).sp⟩)] 3 [⟨2,(pt0 0).sp⟩]:=Stk.go1 (ra ⟨1,_⟩ (by decide)) e1
 have e3 : Stk (exM s) [97,97,98] [([.times 1 1 0],⟨1,(pt0 0).sp⟩)] 4 [⟨2,(pt0 0).sp⟩,⟨1,(pt0 0).sp⟩]:=Stk.go2 (on 1 0 ⟨1,_⟩ (by decide) (by decide)) e2 (hit _)
 have e4 : Stk (exM s) [97,97,98] [([.node 0,.times 1 1 0],pt0 0)] 5 [⟨2,(pt0 0).sp⟩,⟨1,(pt0 0).sp⟩]:=Stk.go1 (ra (pt0 0) (by decide)) e3
 exact Stk.go2 (r (pt0 0)) e4 (hit _)
theorem ex_told (s : Nat → Bool) (h97 : s 97 = true) (h98 : s 98 = false) {x : Option (Option Spn × Int)} (h : Told11 (exM s) [97,97,98] 1 0 9 x) : ∃ m,x = some (some m,3) ∧ m 0 = (0,2) ∧ ∀ g,1 ≤ g → m g = (-1,-1):=by
 refine ⟨hitS 0 ⟨2,(pt0 0).sp⟩,?_,rfl,fun g hg => by rw [hitS_g 0 _ hg];rfl⟩
 rw [h.det (.fin (ex_stk s h97 h98) (by decide))]
 rfl
theorem ex_fits0 (s : Nat → Bool) : fitsN ⟨1,0,0,0,0,0,s⟩ 0 0 = true:=by
 unfold fitsN
 rw [show partsN ⟨1,0,0,0,0,0,s⟩ = [] from rfl,show wantedN ⟨1,0,0,0,0,0,s⟩ = ⟨1,0,0,0,0,0,s⟩ from rfl,sameN_self]
 simp
theorem ex_fits1 : fitsN ⟨4,0,0,0,-1,0,zset⟩ 1 0 = true:=by
 unfold fitsN
 rw [show partsN ⟨4,0,0,0,-1,0,zset⟩ = [0] from rfl,show wantedN ⟨4,0,0,0,-1,0,zset⟩ = ⟨4,0,0,0,-1,0,zset⟩ from rfl,sameN_self]
 simp [okP,timesN]
theorem exM_right (s : Nat → Bool) : rightN (exM s) 0 = true:=by
 rw [rightN_end (by simp [exM])]
 · rfl
 · intro k hk
   match k,hk with
   | 0,_ => exact ex_fits0 s
   | 1,_ => exact ex_fits1
theorem at_ex {e : Ending} (h : AtP (exM f97) 0 [97,97,98] 0 9 e) : e = .returned (.tuple #[.agg #[.int .i64 0,.int .i64 2,.int .i64 (-1),.int .i64 (-1),.int .i64 (-1),.int .i64 (-1),.int .i64 (-1),.int .i64 (-1),.int .i64 (-1),.int .i64 (-1),.int .i64 (-1),.int .i64 (-1),.int .i64 (-1),.int .i64 (-1),.int .i64 (-1),.int .i64 (-1),.int .i64 (-1),.int .i64 (-1),.int .i64 (-1),.int .i64 (-1)],.bool true,.int .i64 3,.int .i64 0]):=by
 cases h with
 | arg h => exact absurd ⟨exM_right f97,by decide,by decide⟩ h
 | fuel h hx => obtain ⟨m,h1,-⟩:=ex_told f97 (by decide) (by decide) hx;cases h1
 | @fine _ b left hx =>
  obtain ⟨m,h1,h2,h3⟩:=ex_told f97 (by decide) (by decide) hx
  have h1:=Option.some.inj h1
  simp only [Prod.mk.injEq] at h1
  obtain ⟨rfl,hl⟩:=h1
  rw [hl]
  have hm : hitC (ansS (some m)) = #[.int .i64 0,.int .i64 2,.int .i64 (-1),.int .i64 (-1),.int .i64 (-1),.int .i64 (-1),.int .i64 (-1),.int .i64 (-1),.int .i64 (-1),.int .i64 (-1),.int .i64 (-1),.int .i64 (-1),.int .i64 (-1),.int .i64 (-1),.int .i64 (-1),.int .i64 (-1),.int .i64 (-1),.int .i64 (-1),.int .i64 (-1),.int .i64 (-1)]:=by
   show hitC m = _
   unfold hitC hitL
   rw [h2,h3 1 (by decide),h3 2 (by decide),h3 3 (by decide),h3 4 (by decide),h3 5 (by decide),h3 6 (by decide),h3 7 (by decide),h3 8 (by decide),h3 9 (by decide)]
  rw [hm];rfl
theorem ex_nods {w : World} {b : Nat} (h : Held w b 54 #[.int .i64 1,.int .i64 0,.int .i64 0,.int .i64 0,.int .i64 0,.int .i64 0,.int .u64 0,.int .u64 8589934592,.int .u64 0,.int .u64 0,.int .i64 4,.int .i64 0,.int .i64 0,.int .i64 0,.int .i64 (-1),.int .i64 0,.int .u64 0,.int .u64 0,.int .u64 0,.int .u64 0]) : Nods w (b + 1) (some ⟨b,0,none⟩) (exM f97):=fun k hk => by
 refine ⟨_,rfl,Nat.lt_succ_self _,fun j u hj => ?_⟩
 rw [add_zero_off]
 refine h.at_ ?_
 have hj10 : j < 10:=by have:=(List.getElem?_eq_some_iff.1 hj).1;rwa [nodL_len] at this
 have hs:=setC_97
 unfold setC at hs
 simp only [Array.mk.injEq,List.cons.injEq,Value.int.injEq,and_true,true_and] at hs
 obtain ⟨q0,q1,q2,q3⟩:=hs
 match k,hk with
 | 0,_ =>
  have e : nodL ((exM f97)[0]'(by decide)) = [.int .i64 1,.int .i64 0,.int .i64 0,.int .i64 0,.int .i64 0,.int .i64 0,.int .u64 0,.int .u64 8589934592,.int .u64 0,.int .u64 0]:=by
   show nodL ⟨1,0,0,0,0,0,f97⟩ = _
   unfold nodL
   simp only
   rw [q0,q1,q2,q3]
  rw [e] at hj
  have : j = 0 ∨ j = 1 ∨ j = 2 ∨ j = 3 ∨ j = 4 ∨ j = 5 ∨ j = 6 ∨ j = 7 ∨ j = 8 ∨ j = 9:=by omega
  rcases this with rfl | rfl | rfl | rfl | rfl | rfl | rfl | rfl | rfl | rfl <;> exact hj
 | 1,_ =>
  have e : nodL ((exM f97)[1]'(by decide)) = [.int .i64 4,.int .i64 0,.int .i64 0,.int .i64 0,.int .i64 (-1),.int .i64 0,.int .u64 0,.int .u64 0,.int .u64 0,.int .u64 0]:=by
   show nodL ⟨4,0,0,0,-1,0,zset⟩ = _
   unfold nodL
   simp only [zset_wd]
   rfl
  rw [e] at hj
  have : j = 0 ∨ j = 1 ∨ j = 2 ∨ j = 3 ∨ j = 4 ∨ j = 5 ∨ j = 6 ∨ j = 7 ∨ j = 8 ∨ j = 9:=by omega
  rcases this with rfl | rfl | rfl | rfl | rfl | rfl | rfl | rfl | rfl | rfl <;> exact hj
theorem ex_call (w : World) (b : Nat) (h : Held w b 54 #[.int .i64 1,.int .i64 0,.int .i64 0,.int .i64 0,.int .i64 0,.int .i64 0,.int .u64 0,.int .u64 8589934592,.int .u64 0,.int .u64 0,.int .i64 4,.int .i64 0,.int .i64 0,.int .i64 0,.int .i64 (-1),.int .i64 0,.int .u64 0,.int .u64 0,.int .u64 0,.int .u64 0]) : Calls Try.prog 10 #[.agg #[.slice (some ⟨b,0,none⟩) 2 2,.int .i64 0],.slice (some ⟨w.heap.size,0,none⟩) 3 3,.int .i64 0,.int .i64 9] (w.alloc (.cells #[.int .u8 97,.int .u8 97,.int .u8 98] 5 (3,4))) fun e w' => e = .returned (.tuple #[.agg #[.int .i64 0,.int .i64 2,.int .i64 (-1),.int .i64 (-1),.int .i64 (-1),.int .i64 (-1),.int .i64 (-1),.int .i64 (-1),.int .i64 (-1),.int .i64 (-1),.int .i64 (-1),.int .i64 (-1),.int .i64 (-1),.int .i64 (-1),.int .i64 (-1),.int .i64 (-1),.int .i64 (-1),.int .i64 (-1),.int .i64 (-1),.int .i64 (-1)],.bool true,.int .i64 3,.int .i64 0]) ∧ Below w.heap.size w w':=by
 have hb:=(Below.refl w.heap.size w).alloc (nlr _) (.cells #[.int .u8 97,.int .u8 97,.int .u8 98] 5 (3,4))
 have hby:=byt_new w [97,97,98] 5 (3,4)
 have hlt:=h.lt
 refine (mat_any (B:=w.heap.size + 1) (ns:=exM f97) (t:=[97,97,98]) ⟨rfl,by decide,by decide,by simp,((ex_nods h).below (hb.mono (by omega))).more (by omega),rfl,by decide,by decide,by decide,hby⟩ (by decide)).mono fun e w' ⟨h1,h2⟩ => ⟨at_ex h1,hb.trans (h2.mono (by simp))⟩
theorem awake11_any (w : World) : Calls Try.prog 9 #[] w fun e w' => e = .returned (.bool true) ∧ Below w.heap.size w w':=by
 have hO:=one97_any w
 rw [setC_97] at hO
 replace hO:=lhi hO
 have hE : ∀ w,(binOp .eql 28 (.agg #[.int .i64 0,.int .i64 2]) (.agg #[.int .i64 0,.int .i64 2])).run Try.prog w = .ok (.bool true) w:=fun w => by
  have:=span_eql w (0,2) (0,2)
  unfold spnV at this
  exact this
 have hG : ∀ op p q w,(eqGuard op 28 p q (.agg #[.int .i64 0,.int .i64 2]) (.agg #[.int .i64 0,.int .i64 2])).run Try.prog w = .ok () w:=fun op p q w => span_guard w op p q (0,2) (0,2)
 have kc:=fun (w : World) (C : Array Value) (n c : Nat) => Lib.run_convert_bytes_const (P:=Try.prog) w 25 5 C n c Try.underlying25 Try.underlying5
 go_enter Try.func9,Try.ntmps9
 go_upto_region 2 with (go_at_call 20;refine (hO.out).mono ?_;rintro e w1 ⟨rfl,hb1⟩;have hN:=lhi ((held_new w1 54 #[.int .i64 1,.int .i64 0,.int .i64 0,.int .i64 0,.int .i64 0,.int .i64 0,.int .u64 0,.int .u64 8589934592,.int .u64 0,.int .u64 0,.int .i64 4,.int .i64 0,.int .i64 0,.int .i64 0,.int .i64 (-1),.int .i64 0,.int .u64 0,.int .u64 0,.int .u64 0,.int .u64 0]).alloc (.cells #[.slice (some ⟨w1.heap.size,0,none⟩) 2 2,.int .i64 0] 24));have hR2:=lhi (held_new2 w1 (.cells #[.int .i64 1,.int .i64 0,.int .i64 0,.int .i64 0,.int .i64 0,.int .i64 0,.int .u64 0,.int .u64 8589934592,.int .u64 0,.int .u64 0,.int .i64 4,.int .i64 0,.int .i64 0,.int .i64 0,.int .i64 (-1),.int .i64 0,.int .u64 0,.int .u64 0,.int .u64 0,.int .u64 0] 54) 24 #[.slice (some ⟨w1.heap.size,0,none⟩) 2 2,.int .i64 0]);have hb2:=lhi ((hb1.alloc hb1.size (.cells #[.int .i64 1,.int .i64 0,.int .i64 0,.int .i64 0,.int .i64 0,.int .i64 0,.int .u64 0,.int .u64 8589934592,.int .u64 0,.int .u64 0,.int .i64 4,.int .i64 0,.int .i64 0,.int .i64 0,.int .i64 (-1),.int .i64 0,.int .u64 0,.int .u64 0,.int .u64 0,.int .u64 0] 54)).alloc (by have:=hb1.size;simp;omega) (.cells #[.slice (some ⟨w1.heap.size,0,none⟩) 2 2,.int .i64 0] 24));clear hb1)
 generalize (w1.alloc (.cells #[.int .i64 1,.int .i64 0,.int .i64 0,.int .i64 0,.int .i64 0,.int .i64 0,.int .u64 0,.int .u64 8589934592,.int .u64 0,.int .u64 0,.int .i64 4,.int .i64 0,.int .i64 0,.int .i64 0,.int .i64 (-1),.int .i64 0,.int .u64 0,.int .u64 0,.int .u64 0,.int .u64 0] 54)).alloc (.cells #[.slice (some ⟨w1.heap.size,0,none⟩) 2 2,.int .i64 0] 24) = w2 at *
 generalize w1.heap.size = b1 at *
 have hCl:=lhi (ex_call w2 b1 hN.out)
 have z0 : w2.cell? ⟨b1 + 1,0,none⟩ = some (.slice (some ⟨b1,0,none⟩) 2 2):=hR2.out.at_ rfl
 have z1 : w2.cell? ⟨b1 + 1,1,none⟩ = some (.int .i64 0):=hR2.out.at_ rfl
 clear hN hR2 hO
 have q20:=lhi (show (#[.int .i64 0,.int .i64 2,.int .i64 (-1),.int .i64 (-1),.int .i64 (-1),.int .i64 (-1),.int .i64 (-1),.int .i64 (-1),.int .i64 (-1),.int .i64 (-1),.int .i64 (-1),.int .i64 (-1),.int .i64 (-1),.int .i64 (-1),.int .i64 (-1),.int .i64 (-1),.int .i64 (-1),.int .i64 (-1),.int .i64 (-1),.int .i64 (-1)] : Array Value).size = 20 from rfl)
 have q1:=lhi (show (#[.int .i64 0,.int .i64 2,.int .i64 (-1),.int .i64 (-1),.int .i64 (-1),.int .i64 (-1),.int .i64 (-1),.int .i64 (-1),.int .i64 (-1),.int .i64 (-1),.int .i64 (-1),.int .i64 (-1),.int .i64 (-1),.int .i64 (-1),.int .i64 (-1),.int .i64 (-1),.int .i64 (-1),.int .i64 (-1),.int .i64 (-1),.int .i64 (-1)] : Array Value).all (·.oneCell') = true from by simp [Value.oneCell'])
 have q2:=lhi (show (#[.int .i64 0,.int .i64 2,.int .i64 (-1),.int .i64 (-1),.int .i64 (-1),.int .i64 (-1),.int .i64 (-1),.int .i64 (-1),.int .i64 (-1),.int .i64 (-1),.int .i64 (-1),.int .i64 (-1),.int .i64 (-1),.int .i64 (-1),.int .i64 (-1),.int .i64 (-1),.int .i64 (-1),.int .i64 (-1),.int .i64 (-1),.int .i64 (-1)] : Array Value)[0]? = some (.int .i64 0) ∧ (#[.int .i64 0,.int .i64 2,.int .i64 (-1),.int .i64 (-1),.int .i64 (-1),.int .i64 (-1),.int .i64 (-1),.int .i64 (-1),.int .i64 (-1),.int .i64 (-1),.int .i64 (-1),.int .i64 (-1),.int .i64 (-1),.int .i64 (-1),.int .i64 (-1),.int .i64 (-1),.int .i64 (-1),.int .i64 (-1),.int .i64 (-1),.int .i64 (-1)] : Array Value)[1]? = some (.int .i64 2) ∧ (#[.int .i64 0,.int .i64 2,.int .i64 (-1),.int .i64 (-1),.int .i64 (-1),.int .i64 (-1),.int .i64 (-1),.int .i64 (-1),.int .i64 (-1),.int .i64 (-1),.int .i64 (-1),.int .i64 (-1),.int .i64 (-1),.int .i64 (-1),.int .i64 (-1),.int .i64 (-1),.int .i64 (-1),.int .i64 (-1),.int .i64 (-1),.int .i64 (-1)] : Array Value)[2]? = some (.int .i64 (-1)) from ⟨rfl,rfl,rfl⟩)
 generalize (#[.int .i64 0,.int .i64 2,.int .i64 (-1),.int .i64 (-1),.int .i64 (-1),.int .i64 (-1),.int .i64 (-1),.int .i64 (-1),.int .i64 (-1),.int .i64 (-1),.int .i64 (-1),.int .i64 (-1),.int .i64 (-1),.int .i64 (-1),.int .i64 (-1),.int .i64 (-1),.int .i64 (-1),.int .i64 (-1),.int .i64 (-1),.int .i64 (-1)] : Array Value) = CM at *
 go_wp2_with (first
  | (go_at_call 10;refine (hCl.out).mono ?_;rintro e w3 ⟨rfl,hb3⟩;have hb4:=lhi (hb2.out.trans (hb3.mono hb2.out.size));have hnull:=lhi (held_new w3 31 #[.int .i64 0,.int .i64 0,.int .i64 0,.int .i64 0,.int .i64 0,.int .i64 0,.int .i64 0,.int .i64 0,.int .i64 0,.int .i64 0,.int .i64 0,.int .i64 0,.int .i64 0,.int .i64 0,.int .i64 0,.int .i64 0,.int .i64 0,.int .i64 0,.int .i64 0,.int .i64 0]);clear hb3)
  | (refine wpList_store_row rfl 31 (.tmp 2) (.tmp 16) rfl w3.heap.size CM rfl rfl 31 _ hnull.out (by rw [q20.out];exact size_hit) (by rw [q20.out];rfl) q1.out ?_;have hV:=hnull.out.row CM;have hb5:=lhi (below_row (hb4.out.alloc hb4.out.size (.cells #[.int .i64 0,.int .i64 0,.int .i64 0,.int .i64 0,.int .i64 0,.int .i64 0,.int .i64 0,.int .i64 0,.int .i64 0,.int .i64 0,.int .i64 0,.int .i64 0,.int .i64 0,.int .i64 0,.int .i64 0,.int .i64 0,.int .i64 0,.int .i64 0,.int .i64 0,.int .i64 0] 31)) hb4.out.size CM);have v0:=hV.at_ q2.out.1;have v1:=hV.at_ q2.out.2.1;have v2:=hV.at_ q2.out.2.2;generalize (w3.alloc (.cells #[.int .i64 0,.int .i64 0,.int .i64 0,.int .i64 0,.int .i64 0,.int .i64 0,.int .i64 0,.int .i64 0,.int .i64 0,.int .i64 0,.int .i64 0,.int .i64 0,.int .i64 0,.int .i64 0,.int .i64 0,.int .i64 0,.int .i64 0,.int .i64 0,.int .i64 0,.int .i64 0] 31)).setRow w3.heap.size CM = w5 at *;clear hV hnull))
 go_ret
 exact ⟨rfl,hb5.out⟩
end Go.Proofs.Ytbdfhmefjfaofaa
