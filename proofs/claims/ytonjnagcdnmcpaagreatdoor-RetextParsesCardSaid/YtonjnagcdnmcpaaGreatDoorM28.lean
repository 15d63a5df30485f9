/- Contracts and plain facts: M28. -/
import Derived.Test.YtonjnagcdnmcpaaGreatDoorM45
set_option linter.unusedVariables false
set_option linter.unusedSimpArgs false
set_option maxRecDepth 100000
set_option maxHeartbeats 32000000
namespace Go.Proofs.YtonjnagcdnmcpaaGreatDoor
open Go.RowKit
section
variable {F : Fms} {e : Bool} {o c f u x : ByteArray} {w : World} {A : Option Addr} {m cp : Nat} {ts : List ByteArray} {a b lo hi g : Int} {s : Nat → Bool}
theorem node_3 (hT : Txt0 w A m cp ts) (ha : 0 ≤ a) (ham : a < (m : Int)) (hb : 0 ≤ b) (hbm : b < (m : Int)) : Calls Tryz.prog 37 #[.agg #[.string o,.string c,.string f,.string u,.string x],nodV ⟨3,a,b,lo,hi,g,s⟩,.slice A m cp] w (NdRes F ts ⟨3,a,b,lo,hi,g,s⟩ w):=by
 obtain ⟨ka,ad,sa,rfl,hka,rfl,hca,hta,hla⟩:=hT.part ha ham
 obtain ⟨kb,ad2,sb,rfl,hkb,hA2,hcb,htb,hlb⟩:=hT.part hb hbm
 obtain rfl:=Option.some.inj hA2
 have hI:=lhi (St1.new w o c f u x 3 (ka : Int) (kb : Int) lo hi g s)
 have hst:=lhi (show sa.data.toList ++ ([124] ++ sb.data.toList) = ntx F (ts.map (·.data.toList)) ⟨3,(ka : Int),(kb : Int),lo,hi,g,s⟩ by rw [← hta,← htb];rfl)
 have hls:=lhi (show sa.size + 1 + sb.size ≤ 100000000 by omega)
 have hp : ∀ (w1 : World),Below w.heap.size w w1 → w1.cell? (ad.add ka) = some (.string sa) ∧ w1.cell? (ad.add kb) = some (.string sb):=fun w1 h => by
  obtain ⟨ad3,h3,hlt,-⟩:=hT.vals.at_ (k:=ka) (by rw [List.length_map,← hT.len];exact hka)
  obtain rfl:=Option.some.inj h3
  exact ⟨(h.cell (p:=ad.add ka) (by rw [block_add];exact hlt)).trans hca,(h.cell (p:=ad.add kb) (by rw [block_add];exact hlt)).trans hcb⟩
 obtain ⟨t1,t2⟩:=hp _ hI.out.be
 replace hp:=lhi hp
 have hnd:=lhi (fun (w1 : World) (h : St1 w w1 o c f u x 3 (ka : Int) (kb : Int) lo hi g s) => (⟨h.nd.at_ (i:=1) rfl,h.nd.at_ (i:=2) rfl⟩ : w1.cell? ⟨w.heap.size + 1,1,none⟩ = some (.int .i64 (ka : Int)) ∧ w1.cell? ⟨w.heap.size + 1,2,none⟩ = some (.int .i64 (kb : Int))))
 obtain ⟨n1,n2⟩:=hnd.out _ hI.out
 have gk1 : ¬ m ≤ ka:=by omega
 have gk2 : ¬ m ≤ kb:=by omega
 have gd1 : decide (m ≤ ka) = false:=decide_eq_false gk1
 have gd2 : decide (m ≤ kb) = false:=decide_eq_false gk2
 rw [nodV_lit]
 clear hT hta htb hla hlb ha ham hb hbm hca hcb
 go_enter Tryz.func37,Tryz.ntmps37
 go_wp2
 generalize ((w.alloc (.cells #[.string o,.string c,.string f,.string u,.string x] 49)).alloc (.cells #[.int .i64 3,.int .i64 (ka : Int),.int .i64 (kb : Int),.int .i64 lo,.int .i64 hi,.int .i64 g,.int .u64 (wd s 0 : Nat),.int .u64 (wd s 1 : Nat),.int .u64 (wd s 2 : Nat),.int .u64 (wd s 3 : Nat)] 43)) = w2 at *
 obtain ⟨G,hG⟩ : ∃ G,G = w.heap.size + 1:=⟨_,rfl⟩
 rw [← hG] at n1 n2 hnd ⊢
 replace hG:=lhi hG
 go_region_held3 (fun w' => w'.cell? ⟨G,1,none⟩ = some (.int .i64 (ka : Int)) ∧ w'.cell? ⟨G,2,none⟩ = some (.int .i64 (kb : Int)) ∧ w'.cell? (ad.add ka) = some (.string sa) ∧ w'.cell? (ad.add kb) = some (.string sb)) (go_keep) (first
  | (go_at_call 60;refine (joined3d sa ⟨#[124]⟩ sb w2 hls.out).mono ?_;rintro en w1 ⟨rfl,hb1⟩;obtain ⟨q1,q2⟩:=hnd.out _ (hI.out.keep hb1);obtain ⟨q3,q4⟩:=hp.out _ (hI.out.be.trans (hb1.mono hI.out.be.size));replace hb1:=lhi hb1))
 go_wp2
 go_ret
 exact ⟨ret_str hst.out,hI.out.be.trans (hb1.out.mono hI.out.be.size)⟩
end
section
variable {F : Fms} {e : Bool} {o c f u x : ByteArray} {w : World} {A : Option Addr} {m cp : Nat} {ts : List ByteArray} {a b lo hi g : Int} {s : Nat → Bool}
theorem node_4 (hS : Sg F e o c f u x) (hT : Txt0 w A m cp ts) (ha : 0 ≤ a) (ham : a < (m : Int)) (ht : timesN lo hi = true) (hTb : Tab w) (hg : 1 < w.heap.size) : Calls Tryz.prog 37 #[.agg #[.string o,.string c,.string f,.string u,.string x],nodV ⟨4,a,b,lo,hi,g,s⟩,.slice A m cp] w (NdRes F ts ⟨4,a,b,lo,hi,g,s⟩ w):=by
 obtain ⟨ka,ad,sa,rfl,hka,rfl,hca,hta,hla⟩:=hT.part ha ham
 have hI:=lhi (St1.new w o c f u x 4 (ka : Int) b lo hi g s)
 obtain ⟨st,hs⟩ : ∃ st : ByteArray,st = ⟨(timT f.data.toList u.data.toList lo hi).toArray⟩:=⟨_,rfl⟩
 have hst:=lhi (show sa.data.toList ++ st.data.toList = ntx F (ts.map (·.data.toList)) ⟨4,(ka : Int),b,lo,hi,g,s⟩ by rw [← hta,hs];show _ ++ timT f.data.toList u.data.toList lo hi = _;rw [← hS.rt];rfl)
 have hls:=lhi (show sa.size + st.size ≤ 100000000 by
  have hlt:=tim_len (a:=f.data.toList) (b:=u.data.toList) (by rw [len_toList];exact hS.lf) (by rw [len_toList];exact hS.lu) ht
  have : st.size = (timT f.data.toList u.data.toList lo hi).length:=by rw [hs];simp [ByteArray.size]
  omega)
 have hp : ∀ (w1 : World),Below w.heap.size w w1 → w1.cell? (ad.add ka) = some (.string sa):=fun w1 h => by
  obtain ⟨ad3,h3,hlt,-⟩:=hT.vals.at_ (k:=ka) (by rw [List.length_map,← hT.len];exact hka)
  obtain rfl:=Option.some.inj h3
  exact (h.cell (p:=ad.add ka) (by rw [block_add];exact hlt)).trans hca
 have t1:=hp _ hI.out.be
 replace hp:=lhi hp
 have hTm:=fun (w1 : World) (h : Below w.heap.size w w1) => times_any o c f u x w1 hS.lf hS.lu lo hi ht (hTb.below h hg) (nll hg h.size)
 rw [← hs] at hTm
 replace hTm:=lhi hTm
 have hnd:=lhi (fun (w1 : World) (h : St1 w w1 o c f u x 4 (ka : Int) b lo hi g s) => (⟨h.nd.at_ (i:=1) rfl,h.nd.at_ (i:=3) rfl,h.nd.at_ (i:=4) rfl,h.sg.at_ (i:=0) rfl,h.sg.at_ (i:=1) rfl,h.sg.at_ (i:=2) rfl,h.sg.at_ (i:=3) rfl,h.sg.at_ (i:=4) rfl⟩ : w1.cell? ⟨w.heap.size + 1,1,none⟩ = some (.int .i64 (ka : Int)) ∧ w1.cell? ⟨w.heap.size + 1,3,none⟩ = some (.int .i64 lo) ∧ w1.cell? ⟨w.heap.size + 1,4,none⟩ = some (.int .i64 hi) ∧ w1.cell? ⟨w.heap.size,0,none⟩ = some (.string o) ∧ w1.cell? ⟨w.heap.size,1,none⟩ = some (.string c) ∧ w1.cell? ⟨w.heap.size,2,none⟩ = some (.string f) ∧ w1.cell? ⟨w.heap.size,3,none⟩ = some (.string u) ∧ w1.cell? ⟨w.heap.size,4,none⟩ = some (.string x)))
 obtain ⟨n1,n2,n3,n4,n5,n6,n7,n8⟩:=hnd.out _ hI.out
 have gk1 : ¬ m ≤ ka:=by omega
 have gd1 : decide (m ≤ ka) = false:=decide_eq_false gk1
 rw [nodV_lit]
 clear hT hta hla ha ham hca hS hs hTb hg ht
 go_enter Tryz.func37,Tryz.ntmps37
 go_wp2
 generalize ((w.alloc (.cells #[.string o,.string c,.string f,.string u,.string x] 49)).alloc (.cells #[.int .i64 4,.int .i64 (ka : Int),.int .i64 b,.int .i64 lo,.int .i64 hi,.int .i64 g,.int .u64 (wd s 0 : Nat),.int .u64 (wd s 1 : Nat),.int .u64 (wd s 2 : Nat),.int .u64 (wd s 3 : Nat)] 43)) = w2 at *
 obtain ⟨G,hG⟩ : ∃ G,G = w.heap.size + 1:=⟨_,rfl⟩
 rw [← hG] at n1 n2 n3 hnd ⊢
 replace hG:=lhi hG
 go_region_held3 (fun w' => w'.cell? ⟨G,1,none⟩ = some (.int .i64 (ka : Int)) ∧ w'.cell? ⟨G,3,none⟩ = some (.int .i64 lo) ∧ w'.cell? ⟨G,4,none⟩ = some (.int .i64 hi) ∧ w'.cell? ⟨w.heap.size,0,none⟩ = some (.string o) ∧ w'.cell? ⟨w.heap.size,1,none⟩ = some (.string c) ∧ w'.cell? ⟨w.heap.size,2,none⟩ = some (.string f) ∧ w'.cell? ⟨w.heap.size,3,none⟩ = some (.string u) ∧ w'.cell? ⟨w.heap.size,4,none⟩ = some (.string x) ∧ w'.cell? (ad.add ka) = some (.string sa)) (go_keep) (first
  | (go_at_call 61;refine (hTm.out _ hI.out.be.drew).mono ?_;rintro en w3 ⟨rfl,hb3⟩;replace hb3 : Below w2.heap.size w2 w3:=(Below.refl _ w2).drew.trans hb3;have h3:=lhi (hI.out.keep hb3);obtain ⟨q1,q2,q3,q4,q5,q6,q7,q8⟩:=hnd.out _ h3.out;have q9:=hp.out _ h3.out.be;replace hb3:=lhi hb3)
  | (go_at_call 60;refine (joined2 sa st w3 hls.out).mono ?_;rintro en w1 ⟨rfl,hb1⟩;obtain ⟨r1,r2,r3,r4,r5,r6,r7,r8⟩:=hnd.out _ (h3.out.keep hb1);have r9:=hp.out _ (h3.out.be.trans (hb1.mono h3.out.be.size));replace hb1:=lhi hb1))
 go_wp2
 go_ret
 exact ⟨ret_str hst.out,h3.out.be.trans (hb1.out.mono h3.out.be.size)⟩
end
section
variable {F : Fms} {e : Bool} {o c f u x : ByteArray} {w : World} {A : Option Addr} {m cp : Nat} {ts : List ByteArray} {a b lo hi g : Int} {s : Nat → Bool}
theorem node_5 (hS : Sg F e o c f u x) (hT : Txt0 w A m cp ts) (ha : 0 ≤ a) (ham : a < (m : Int)) : Calls Tryz.prog 37 #[.agg #[.string o,.string c,.string f,.string u,.string x],nodV ⟨5,a,b,lo,hi,g,s⟩,.slice A m cp] w (NdRes F ts ⟨5,a,b,lo,hi,g,s⟩ w):=by
 obtain ⟨ka,ad,sa,rfl,hka,rfl,hca,hta,hla⟩:=hT.part ha ham
 have hI:=lhi (St1.new w o c f u x 5 (ka : Int) b lo hi g s)
 have hst:=lhi (show o.data.toList ++ (sa.data.toList ++ c.data.toList) = ntx F (ts.map (·.data.toList)) ⟨5,(ka : Int),b,lo,hi,g,s⟩ by rw [← hta,← hS.op,← hS.cs];rfl)
 have hls:=lhi (show o.size + sa.size + c.size ≤ 100000000 by have:=hS.lo;have:=hS.lc;omega)
 have hp : ∀ (w1 : World),Below w.heap.size w w1 → w1.cell? (ad.add ka) = some (.string sa):=fun w1 h => by
  obtain ⟨ad3,h3,hlt,-⟩:=hT.vals.at_ (k:=ka) (by rw [List.length_map,← hT.len];exact hka)
  obtain rfl:=Option.some.inj h3
  exact (h.cell (p:=ad.add ka) (by rw [block_add];exact hlt)).trans hca
 have t1:=hp _ hI.out.be
 replace hp:=lhi hp
 have hnd:=lhi (fun (w1 : World) (h : St1 w w1 o c f u x 5 (ka : Int) b lo hi g s) => (⟨h.nd.at_ (i:=1) rfl,h.sg.at_ (i:=0) rfl,h.sg.at_ (i:=1) rfl⟩ : w1.cell? ⟨w.heap.size + 1,1,none⟩ = some (.int .i64 (ka : Int)) ∧ w1.cell? ⟨w.heap.size,0,none⟩ = some (.string o) ∧ w1.cell? ⟨w.heap.size,1,none⟩ = some (.string c)))
 obtain ⟨n1,n2,n3⟩:=hnd.out _ hI.out
 have gk1 : ¬ m ≤ ka:=by omega
 have gd1 : decide (m ≤ ka) = false:=decide_eq_false gk1
 rw [nodV_lit]
 clear hT hta hla ha ham hca hS
 go_enter Tryz.func37,Tryz.ntmps37
 go_wp2
 generalize ((w.alloc (.cells #[.string o,.string c,.string f,.string u,.string x] 49)).alloc (.cells #[.int .i64 5,.int .i64 (ka : Int),.int .i64 b,.int .i64 lo,.int .i64 hi,.int .i64 g,.int .u64 (wd s 0 : Nat),.int .u64 (wd s 1 : Nat),.int .u64 (wd s 2 : Nat),.int .u64 (wd s 3 : Nat)] 43)) = w2 at *
 obtain ⟨G,hG⟩ : ∃ G,G = w.heap.size + 1:=⟨_,rfl⟩
 rw [← hG] at n1 hnd ⊢
 replace hG:=lhi hG
 go_region_held3 (fun w' => w'.cell? ⟨G,1,none⟩ = some (.int .i64 (ka : Int)) ∧ w'.cell? ⟨w.heap.size,0,none⟩ = some (.string o) ∧ w'.cell? ⟨w.heap.size,1,none⟩ = some (.string c) ∧ w'.cell? (ad.add ka) = some (.string sa)) (go_keep) (first
  | (go_at_call 60;refine (joined3d o sa c w2 hls.out).mono ?_;rintro en w1 ⟨rfl,hb1⟩;obtain ⟨q1,q2,q3⟩:=hnd.out _ (hI.out.keep hb1);have q4:=hp.out _ (hI.out.be.trans (hb1.mono hI.out.be.size));replace hb1:=lhi hb1))
 go_wp2
 go_ret
 exact ⟨ret_str hst.out,hI.out.be.trans (hb1.out.mono hI.out.be.size)⟩
end
section
variable {F : Fms} {e : Bool} {o c f u x : ByteArray} {w : World} {A : Option Addr} {m cp : Nat} {ts : List ByteArray} {a b lo hi g : Int} {s : Nat → Bool}
theorem node_any (hS : Sg F e o c f u x) (hT : Txt0 w A m cp ts) (n : Nod) {t gg : Int} (hf : fitsN n t gg = true) (htm : t ≤ (m : Int)) (hg9 : gg ≤ 9) (hTb : Tab w) (hg : 1 < w.heap.size) :
    Calls Tryz.prog 37 #[.agg #[.string o,.string c,.string f,.string u,.string x],nodV n,.slice A m cp] w (NdRes F ts n w):=by
 have hf0:=hf
 unfold fitsN at hf
 simp only [Bool.and_eq_true,Bool.or_eq_true,decide_eq_true_eq] at hf
 obtain ⟨-,f2,f3,f4,f5,-⟩:=hf
 obtain ⟨k,a,b,lo,hi,g,s⟩:=n
 simp only at f2 f3 f4 f5
 have hpa : ∀ p ∈ partsN ⟨k,a,b,lo,hi,g,s⟩,0 ≤ p ∧ p < (m : Int):=fun p hp => by
  have:=fits_part hf0 hp
  omega
 rcases (show k = 0 ∨ k = 1 ∨ k = 2 ∨ k = 3 ∨ k = 4 ∨ k = 5 ∨ k = 6 ∨ k = 7 ∨ k = 8 by omega) with rfl | rfl | rfl | rfl | rfl | rfl | rfl | rfl | rfl
 · exact node_0 0 (.inl rfl)
 · exact node_1 hS
 · have h1:=hpa a (by simp [partsN])
   have h2:=hpa b (by simp [partsN])
   exact node_2 hT h1.1 h1.2 h2.1 h2.2
 · have h1:=hpa a (by simp [partsN])
   have h2:=hpa b (by simp [partsN])
   exact node_3 hT h1.1 h1.2 h2.1 h2.2
 · have h1:=hpa a (by simp [partsN])
   exact node_4 hS hT h1.1 h1.2 (by simpa using f2) hTb hg
 · have h1:=hpa a (by simp [partsN])
   exact node_5 hS hT h1.1 h1.2
 · have:=f3.resolve_left (fun h => h.2 rfl)
   exact node_6 this.1 (by omega) hTb hg
 · exact node_0 7 (.inr (.inl rfl))
 · exact node_0 8 (.inr (.inr rfl))
end
def strV (l : List UInt8) : Value:=.string ⟨l.toArray⟩
def rowX (ts : List (List UInt8)) : Array Value:=(ts.map strV).toArray
theorem rowX_get {ts : List (List UInt8)} {i : Nat} (h : i < ts.length) : (rowX ts)[i]? = some (strV (ts[i]'h)):=by
 unfold rowX
 rw [List.getElem?_toArray,List.getElem?_map,List.getElem?_eq_getElem h];rfl
theorem rowX_set (ts : List (List UInt8)) (p : Nat) (x : List UInt8) : (rowX ts).setIfInBounds p (strV x) = rowX (ts.set p x):=by
 apply Array.toList_inj.1
 simp [rowX,List.map_set]
theorem rowX_zero (m : Nat) : (madeCells #[.string ByteArray.empty] m) = rowX (List.replicate m []):=by
 apply Array.toList_inj.1
 rw [toList_madeCells_one]
 unfold rowX
 rw [List.map_replicate]
 rfl
theorem str_info : (Tryz.prog.info? 9).map (fun i => (i.zero,i.size,i.bytes)) = some (some (.string ByteArray.empty),1,16):=by kernel_rfl
theorem make_strs (m : Nat) (h : m ≤ 1000000) (w : World) :
    (Instr.makeSlice 75 (.int .i64 (m : Int)) (.int .i64 (m : Int))).run Tryz.prog w = .ok (.slice (some ⟨w.heap.size,0,none⟩) m m) (w.alloc (.cells (rowX (List.replicate m [])) 9)):=by
 obtain ⟨i,hi,hh⟩:=Option.map_eq_some_iff.1 str_info
 simp only [Prod.mk.injEq] at hh
 obtain ⟨h1,h2,h3⟩:=hh
 have hr:=run_make (P:=Tryz.prog) w 75 9 i (.string ByteArray.empty) Tryz.underlying75 hi h1 .i64 .i64 (m : Int) (m : Int) (by omega) (Int.le_refl _) (by rw [h3];omega) (by omega)
 rw [hr,h2]
 simp only [Int.toNat_natCast,Nat.mul_one]
 rw [show (Value.string ByteArray.empty).cells = #[.string ByteArray.empty] from rfl,rowX_zero]
def restT (F : Fms) (ns : List Nod) (k n : Nat) : List (List UInt8):=txs F (ns.take k) ++ List.replicate (n - k) []
theorem restT_len (F : Fms) {ns : List Nod} {k n : Nat} (hn : n = ns.length) (hk : k ≤ n) : (restT F ns k n).length = n:=by
 unfold restT
 rw [lla,txs_len,List.length_take,List.length_replicate];omega
theorem restT_next (F : Fms) {ns : List Nod} {k n : Nat} (hn : n = ns.length) (hk : k < ns.length) : (restT F ns k n).set k (ntx F (txs F (ns.take k)) (ns[k]'hk)) = restT F ns (k + 1) n:=by
 unfold restT
 rw [txs_next F ns hk,List.set_append_right _ _ (by rw [txs_len,List.length_take];omega),txs_len,List.length_take,show k - min k ns.length = 0 by omega,show n - k = (n - (k + 1)) + 1 by omega,List.replicate_succ,List.set_cons_zero,List.append_assoc]
 rfl
theorem restT_end (F : Fms) (ns : List Nod) : restT F ns ns.length ns.length = txs F ns:=by
 unfold restT;rw [List.take_length,Nat.sub_self];simp
theorem restT_short {F : Fms} (hF : ShortF F) {ns : List Nod} {g : Int} (h : rightN ns g = true) {k n : Nat} : ∀ t ∈ restT F ns k n,t.length ≤ 3000000:=fun t ht => by
 unfold restT at ht
 rcases List.mem_append.1 ht with ht | ht
 · rw [txs_take] at ht
   have ht:=List.mem_of_mem_take ht
   obtain ⟨j,hj,rfl⟩:=List.getElem_of_mem ht
   have hj' : j < ns.length:=by rw [txs_len] at hj;exact hj
   have:=right_short hF h j hj'
   unfold tx tat at this
   rw [Int.toNat_natCast,List.getD_eq_getElem?_getD,List.getElem?_eq_getElem hj] at this
   exact this
 · rw [List.mem_replicate] at ht;rw [ht.2];simp
def strsB (ts : List (List UInt8)) : List ByteArray:=ts.map fun l => ⟨l.toArray⟩
theorem strsB_back (ts : List (List UInt8)) : (strsB ts).map (·.data.toList) = ts:=by
 unfold strsB
 rw [List.map_map]
 have : ((fun b : ByteArray => b.data.toList) ∘ fun l : List UInt8 => (⟨l.toArray⟩ : ByteArray)) = id:=by funext l;simp
 rw [this,List.map_id]
theorem txt_row {w : World} {g n : Nat} {ts : List (List UInt8)} (h : Held w g 9 (rowX ts)) (hn : ts.length = n) (hm : n ≤ 1000000) (hs : ∀ t ∈ ts,t.length ≤ 3000000) : Txt0 w (some ⟨g,0,none⟩) n n (strsB ts) where
 len:=by unfold strsB;rw [List.length_map,hn]
 cap:=nlr _
 most:=by unfold maxLen;omega
 vals:=by
  intro j hj
  have hj' : j < ts.length:=by unfold strsB at hj;simpa using hj
  refine ⟨_,rfl,h.lt,?_⟩
  rw [add_zero_off,h.at_ (rowX_get hj')]
  unfold strsB
  simp [strV]
 short s hs':=by
  unfold strsB at hs'
  obtain ⟨t,ht,rfl⟩:=List.mem_map.1 hs'
  have:=hs t ht
  show t.toArray.size ≤ _
  simp;omega
structure RelWr (W : World) (F : Fms) (ns : List Nod) (n : Nat) (sv : Array Value) (k : Nat) (wr : World) : Prop where
 le : k ≤ n
 sg : Held wr W.heap.size 49 sv
 row : Held wr (W.heap.size + 1) 9 (rowX (restT F ns k n))
 be : Below W.heap.size W wr
theorem RelWr.below {W w w' : World} {F : Fms} {ns : List Nod} {n : Nat} {sv : Array Value} {k : Nat} (h : RelWr W F ns n sv k w) (hb : Below w.heap.size w w') : RelWr W F ns n sv k w' :=
 ⟨h.le,h.sg.keep hb,h.row.keep hb,h.be.trans (hb.mono h.be.size)⟩
def RelWl (W : World) (F : Fms) (ns : List Nod) (n : Nat) (sv : Array Value) (i : Value) (wr : World) : Prop:=∃ k : Nat,i = .int .i64 (k : Nat) ∧ RelWr W F ns n sv k wr
theorem RelWl.mk {W : World} {F : Fms} {ns : List Nod} {n : Nat} {sv : Array Value} {i : Value} {wr : World} (h : ∃ k : Nat,i = .int .i64 (k : Nat) ∧ RelWr W F ns n sv k wr) : RelWl W F ns n sv i wr:=h
theorem restT_0 (F : Fms) (ns : List Nod) (n : Nat) : restT F ns 0 n = List.replicate n []:=by
 unfold restT txs;simp
theorem right_fits {ns : List Nod} {g : Int} (h : rightN ns g = true) : ∀ k (hk : k < ns.length),fitsN (ns[k]'hk) (k : Int) g = true:=by
 unfold rightN at h
 simp only [Bool.and_eq_true,decide_eq_true_eq] at h
 exact h.2.1
theorem tx_last (F : Fms) {ns : List Nod} {q : Nat} (h : ns.length = q + 1) : tx F ns ((ns.length : Int) - 1) = (txs F ns)[q]'(by rw [txs_len];omega):=by
 unfold tx tat
 rw [show ((ns.length : Int) - 1).toNat = q by omega,List.getD_eq_getElem?_getD,List.getElem?_eq_getElem (by rw [txs_len];omega)]
 rfl
structure StW (W w : World) (F : Fms) (ns : List Nod) (n : Nat) (sv : Array Value) (k G : Nat) (nd : Nod) : Prop where
 re : RelWr W F ns n sv k w
 nd : Held w G 43 (nodC nd)
 ne : W.heap.size + 1 < G
theorem written_any {F : Fms} {e : Bool} {o c f u x : ByteArray} (hS : Sg F e o c f u x) (hF : ShortF F) (A : Option Addr) (n cp : Nat) (ns : List Nod) (g : Int) (B : Nat) (w : World) (hn : n = ns.length) (hnc : n ≤ cp) (hm : cp ≤ maxLen) (hB : B ≤ w.heap.size) (h : Nods w B A ns) (hr : rightN ns g = true) (hT : Tab w) (hg : 1 < w.heap.size) :
    Calls Tryz.prog 21 #[.agg #[.string o,.string c,.string f,.string u,.string x],.slice A n cp] w fun en w' => en = .returned (.string ⟨(tx F ns ((ns.length : Int) - 1)).toArray⟩) ∧ Below w.heap.size w w':=by
 unfold maxLen at hm
 have hrl:=rightN_len hr
 have hMk:=make_strs n (by omega)
 have hH:=lhi hn
 have hh:=lhi h
 have hBB:=lhi hB
 have hFit:=lhi (right_fits hr)
 have hShort:=lhi (fun k => restT_short hF hr (k:=k) (n:=n))
 have hn1 : 1 ≤ n:=by omega
 have hn2 : n ≤ 1000:=by omega
 have hg9 : Hid (g ≤ 9):=lhi hrl.2.2.2
 have hNd:=lhi (fun (w1 : World) (hb : Below w.heap.size w w1) (m : Nat) (ts : List ByteArray) (ad : Option Addr) (hx : Txt0 w1 ad n n ts) (nd : Nod) (t : Int) (hf : fitsN nd t g = true) (ht : t ≤ (n : Int)) => node_any hS hx nd hf ht hg9.out (hT.below hb hg) (nll hg hb.size))
 clear hn h hB hr hrl hF hS hT hg
 go_enter Tryz.func21,Tryz.ntmps21
 go_wp2
 clear hMk
 go_loopw [6,7,13] (fun _ _ i wr => RelWl w F ns n #[.string o,.string c,.string f,.string u,.string x] i wr) (fun _ _ i _ => n - (intOf i).toNat)
 case atStart =>
  exact RelWl.mk ⟨0,rfl,Nat.zero_le _,(held_new w _ _).alloc _,by rw [restT_0];exact held_new2 _ _ _ _,alloc2_below w _ _⟩
 case round =>
  obtain ⟨k,rfl,hk⟩:=hrel
  have hkn:=hk.le
  by_cases hlt : k < n
  · have hkl : k < ns.length:=by have:=hH.out;omega
    obtain ⟨ad,b,q,hA,hp,-,hd⟩:=(hh.out.below (hk.be.mono hBB.out)).at_ hkl
    subst hA
    have hf:=hFit.out k hkl
    have hnx:=lhi (restT_next F hH.out hkl)
    generalize ns[k]'hkl = nd at *
    have hS0:=lhi (show StW w (wr.alloc (.cells (nodC nd) 43)) F ns n #[.string o,.string c,.string f,.string u,.string x] k wr.heap.size nd from ⟨hk.below ((Below.refl _ _).alloc (nlr _) _),held_new wr _ _,hk.row.lt⟩)
    replace hd:=lhi hd
    obtain ⟨t,ht⟩ : ∃ t,t = ntx F (txs F (ns.take k)) nd:=⟨_,rfl⟩
    rw [← ht] at hnx
    have hNk:=lhi (fun (w1 : World) (h1 : RelWr w F ns n #[.string o,.string c,.string f,.string u,.string x] k w1) => ((hNd.out w1 h1.be n _ _ (txt_row h1.row (restT_len F hH.out hkn) (by omega) (hShort.out k)) nd (k : Int) hf (by omega)).mono fun en w' hy => ⟨by rw [hy.1,strsB_back];unfold restT;rw [ntx_more,ht];rfl,hy.2⟩ : Calls Tryz.prog 37 #[.agg #[.string o,.string c,.string f,.string u,.string x],nodV nd,.slice (some ⟨w.heap.size + 1,0,none⟩) n n] w1 fun en w' => en = .returned (strV t) ∧ Below w1.heap.size w1 w'))
    have gk1 : ¬ n ≤ k:=by omega
    have gd1 : decide (n ≤ k) = false:=decide_eq_false gk1
    clear hf hk ht hNd hShort hFit
    unfold strV at hNk
    go_wp2_with (first
     | (refine wpList_load_mid rfl 43 (.tmp 16) rfl b q rfl (nodL nd) _ hd.out under_nod rfl (nod_info nd) ?_)
     | (refine wpList_store_row rfl 43 (.tmp 7) (.tmp 17) rfl wr.heap.size (nodC nd) rfl rfl 43 _ (nod_zero_lit wr) (nod_size nd) rfl (nod_cells nd) ?_
        rw [World.setRow_alloc_new]
        generalize wr.alloc (.cells (nodC nd) 43) = w3 at *
        generalize wr.heap.size = G at *
        have hN3:=lhi hS0.out.nd
        have z0:=hS0.out.re.sg.at_ (i:=0) (v:=.string o) rfl
        have z1:=hS0.out.re.sg.at_ (i:=1) (v:=.string c) rfl
        have z2:=hS0.out.re.sg.at_ (i:=2) (v:=.string f) rfl
        have z3:=hS0.out.re.sg.at_ (i:=3) (v:=.string u) rfl
        have z4:=hS0.out.re.sg.at_ (i:=4) (v:=.string x) rfl)
     | (refine wpList_load_row rfl 43 (.tmp 7) rfl G rfl 43 _ (0,0) _ hN3.out under_nod rfl (nod_size nd) ?_)
     | (go_at_call 37;refine (hNk.out _ hS0.out.re).mono ?_;rintro en w4 ⟨rfl,hb4⟩;have h4:=lhi (hS0.out.re.below hb4);have y1:=h4.out.row.thawed k;have y2:=h4.out.row.at_ (rowX_get (i:=k) (by rw [restT_len F hH.out hkn];exact hlt))))
    go_roundw
    case rel => exact RelWl.mk ⟨k + 1,by go_num,hlt,h4.out.sg.far (by simp) _,by have:=h4.out.row.put k (strV t);rw [rowX_set,hnx.out] at this;exact this,h4.out.be.setCell (p:=⟨w.heap.size + 1,k,none⟩) (Nat.le_succ _) _⟩
    case measure => simp [intOf];omega
  · obtain rfl : k = n:=by omega
    obtain ⟨q,hq⟩ : ∃ q,k = q + 1:=⟨k - 1,by omega⟩
    have hq1 : (k : Int) - 1 = (q : Int):=by omega
    have hqk : ¬ k ≤ q:=by omega
    have hqd : decide (k ≤ q) = false:=decide_eq_false hqk
    have hq0 : (0 : Int) ≤ (q : Int):=by omega
    have hqw : IntKind.i64.wrap (q : Int) = (q : Int):=IntWalk.i64_in _ (by omega)
    have hlen:=hH.out
    have hrow:=hk.row
    rw [hlen,restT_end] at hrow
    have hlast:=lhi (tx_last F (ns:=ns) (q:=q) (by omega))
    have y:=hrow.at_ (rowX_get (i:=q) (by rw [txs_len];omega))
    unfold strV at y
    have hbe:=lhi hk.be
    generalize (txs F ns)[q]'_ = t at *
    clear hrow hlen hq hk hNd hShort hFit
    go_wp2
    go_ret
    exact ⟨ret_str hlast.out.symm,hbe.out⟩
end Go.Proofs.YtonjnagcdnmcpaaGreatDoor
