/- Contracts and plain facts: M45. -/
import Derived.Test.YtonjnagcdnmcpaaGreatDoorM42
import Derived.Test.YtonjnagcdnmcpaaGreatDoorM44
import Derived.Test.YtonjnagcdnmcpaaGreatDoorM27
set_option linter.unusedVariables false
set_option linter.unusedSimpArgs false
set_option maxRecDepth 100000
set_option maxHeartbeats 32000000
namespace Go.Proofs.YtonjnagcdnmcpaaGreatDoor
open Go.RowKit
structure Sg (F : Fms) (e : Bool) (o c f u x : ByteArray) : Prop where
 op : F.op = o.data.toList
 cs : F.cs = c.data.toList
 rt : F.rt = timT f.data.toList u.data.toList
 st : F.st = setT e
 ex : x.data.toList = escS e
 lo : o.size ≤ 2
 lc : c.size ≤ 2
 lf : f.size ≤ 2
 lu : u.size ≤ 2
theorem sg_ext : Sg (frm true) true ⟨#[40]⟩ ⟨#[41]⟩ ⟨#[123]⟩ ⟨#[125]⟩ ⟨#[92,91,46,42,94,36,40,41,123,43,63,124]⟩:=⟨rfl,rfl,rfl,rfl,rfl,by decide,by decide,by decide,by decide⟩
theorem sg_bas : Sg (frm false) false ⟨#[92,40]⟩ ⟨#[92,41]⟩ ⟨#[92,123]⟩ ⟨#[92,125]⟩ ⟨#[92,91,46,42,94,36]⟩:=⟨rfl,rfl,rfl,rfl,rfl,by decide,by decide,by decide,by decide⟩
structure Txt0 (w : World) (A : Option Addr) (m cp : Nat) (ts : List ByteArray) : Prop where
 len : m = ts.length
 cap : m ≤ cp
 most : cp ≤ maxLen
 vals : Vals w w.heap.size A (ts.map Value.string)
 short : ∀ s ∈ ts,s.size ≤ 10000000
theorem Txt0.keep {w w' : World} {A : Option Addr} {m cp : Nat} {ts : List ByteArray} (h : Txt0 w A m cp ts) (hb : Below w.heap.size w w') : Txt0 w' A m cp ts :=
 ⟨h.len,h.cap,h.most,(h.vals.below hb).more hb.size,h.short⟩
theorem tat_at {ts : List ByteArray} {a : Int} (k : Nat) (hk : k < ts.length) (ha : a = (k : Int)) : tat (ts.map (·.data.toList)) a = (ts[k]'hk).data.toList:=by
 subst ha
 unfold tat
 rw [Int.toNat_natCast,List.getD_eq_getElem?_getD,List.getElem?_map,List.getElem?_eq_getElem hk]
 rfl
theorem Txt0.part {w : World} {A : Option Addr} {m cp : Nat} {ts : List ByteArray} (h : Txt0 w A m cp ts) {a : Int} (h0 : 0 ≤ a) (hm : a < (m : Int)) : ∃ (k : Nat) (ad : Addr) (s : ByteArray),a = (k : Int) ∧ k < m ∧ A = some ad ∧ w.cell? (ad.add k) = some (.string s) ∧ tat (ts.map (·.data.toList)) a = s.data.toList ∧ s.size ≤ 10000000:=by
 obtain ⟨k,rfl⟩:=Int.eq_ofNat_of_zero_le h0
 have hk : k < ts.length:=by have:=h.len;omega
 obtain ⟨ad,hA,_,hc⟩:=h.vals.at_ (k:=k) (by rw [List.length_map];exact hk)
 rw [List.getElem_map] at hc
 exact ⟨k,ad,ts[k]'hk,rfl,by omega,hA,hc,tat_at k hk rfl,h.short _ (List.getElem_mem hk)⟩
structure St1 (W w : World) (o c f u x : ByteArray) (k a b lo hi g : Int) (s : Nat → Bool) : Prop where
 sg : Held w W.heap.size 49 #[.string o,.string c,.string f,.string u,.string x]
 nd : Held w (W.heap.size + 1) 43 (nodC ⟨k,a,b,lo,hi,g,s⟩)
 be : Below W.heap.size W w
theorem St1.new (w : World) (o c f u x : ByteArray) (k a b lo hi g : Int) (s : Nat → Bool) : St1 w ((w.alloc (.cells #[.string o,.string c,.string f,.string u,.string x] 49)).alloc (.cells #[.int .i64 k,.int .i64 a,.int .i64 b,.int .i64 lo,.int .i64 hi,.int .i64 g,.int .u64 (wd s 0 : Nat),.int .u64 (wd s 1 : Nat),.int .u64 (wd s 2 : Nat),.int .u64 (wd s 3 : Nat)] 43)) o c f u x k a b lo hi g s :=
 ⟨(held_new w _ _).alloc _,held_new2 w _ _ _,((Below.refl _ _).alloc (nlr _) _).alloc (by simp) _⟩
theorem St1.keep {W w w' : World} {o c f u x : ByteArray} {k a b lo hi g : Int} {s : Nat → Bool} (h : St1 W w o c f u x k a b lo hi g s) (hb : Below w.heap.size w w') : St1 W w' o c f u x k a b lo hi g s :=
 ⟨h.sg.keep hb,h.nd.keep hb,h.be.trans (hb.mono h.be.size)⟩
section
variable {F : Fms} {e : Bool} {o c f u x : ByteArray} {w : World} {A : Option Addr} {m cp : Nat} {ts : List ByteArray} {a b lo hi g : Int} {s : Nat → Bool}
def NdRes (F : Fms) (ts : List ByteArray) (n : Nod) (W : World) (en : Ending) (w' : World) : Prop:=en = .returned (.string ⟨(ntx F (ts.map (·.data.toList)) n).toArray⟩) ∧ Below W.heap.size W w'
theorem node_0 (k : Int) (hk : k = 0 ∨ k = 7 ∨ k = 8) : Calls Tryz.prog 37 #[.agg #[.string o,.string c,.string f,.string u,.string x],nodV ⟨k,a,b,lo,hi,g,s⟩,.slice A m cp] w (NdRes F ts ⟨k,a,b,lo,hi,g,s⟩ w):=by
 have hI:=lhi (St1.new w o c f u x k a b lo hi g s)
 rw [nodV_lit]
 rcases hk with rfl | rfl | rfl
 · go_enter Tryz.func37,Tryz.ntmps37
   go_wp2
   go_ret
   exact ⟨rfl,hI.out.be⟩
 · go_enter Tryz.func37,Tryz.ntmps37
   go_wp2
   go_ret
   exact ⟨rfl,hI.out.be⟩
 · go_enter Tryz.func37,Tryz.ntmps37
   go_wp2
   go_ret
   exact ⟨rfl,hI.out.be⟩
theorem node_1 (hS : Sg F e o c f u x) : Calls Tryz.prog 37 #[.agg #[.string o,.string c,.string f,.string u,.string x],nodV ⟨1,a,b,lo,hi,g,s⟩,.slice A m cp] w (NdRes F ts ⟨1,a,b,lo,hi,g,s⟩ w):=by
 have hI:=lhi (St1.new w o c f u x 1 a b lo hi g s)
 have hC:=lhi (fun w1 => rset_any e o c f u x hS.ex s w1)
 have hst:=lhi (show setT e s = ntx F (ts.map (·.data.toList)) ⟨1,a,b,lo,hi,g,s⟩ by unfold ntx;rw [if_pos rfl,hS.st])
 rw [nodV_lit]
 clear hS
 go_enter Tryz.func37,Tryz.ntmps37
 go_wp2_with (go_at_call 59;refine (hC.out _).mono ?_;rintro en w1 ⟨rfl,hb1⟩)
 go_ret
 exact ⟨ret_str hst.out,hI.out.be.trans (hb1.mono hI.out.be.size)⟩
theorem node_6 (h1 : 1 ≤ g) (h9 : g ≤ 9) (hTb : Tab w) (hg : 1 < w.heap.size) : Calls Tryz.prog 37 #[.agg #[.string o,.string c,.string f,.string u,.string x],nodV ⟨6,a,b,lo,hi,g,s⟩,.slice A m cp] w (NdRes F ts ⟨6,a,b,lo,hi,g,s⟩ w):=by
 obtain ⟨q,rfl⟩:=Int.eq_ofNat_of_zero_le (show 0 ≤ g by omega)
 have hI:=lhi (St1.new w o c f u x 6 a b lo hi (q : Int) s)
 have hst:=lhi (show ([92] : List UInt8) ++ Lib.itoa (q : Int) = ntx F (ts.map (·.data.toList)) ⟨6,a,b,lo,hi,(q : Int),s⟩ by rw [itoa_digit q (by omega)];rfl)
 have hX:=lhi (fun (w1 : World) (h : Below w.heap.size w w1) => dtext_any (q : Int) w1 (by omega) (by omega) (hTb.below h hg))
 have hls:=lhi (show (⟨#[92]⟩ : ByteArray).size + (⟨(Lib.itoa (q : Int)).toArray⟩ : ByteArray).size ≤ 100000000 by
  show 1 + (Lib.itoa (q : Int)).toArray.size ≤ _
  have:=itoa_len (m:=(q : Int)) (by omega) (by omega)
  simp;omega)
 rw [nodV_lit]
 clear h1 h9 hTb hg
 go_enter Tryz.func37,Tryz.ntmps37
 go_wp2_with (first
  | (go_at_call 62;refine (hX.out _ hI.out.be).mono ?_;rintro en w1 ⟨rfl,hb1⟩;have h2:=lhi (hI.out.be.trans (hb1.mono hI.out.be.size)))
  | (go_at_call 60;refine (joined2 ⟨#[92]⟩ ⟨(Lib.itoa (q : Int)).toArray⟩ _ hls.out).mono ?_;rintro en w2 ⟨rfl,hb2⟩))
 go_ret
 exact ⟨ret_str (by simpa using hst.out),h2.out.trans (hb2.mono h2.out.size)⟩
end
theorem joined_lsd (ss : List ByteArray) (k : Nat) (hk : ss.length = k) (h1 : 1 ≤ k) (h4 : k ≤ 10) (hl : (ss.map fun s => s.data.toList).flatten.length ≤ 100000000) (w : World) :
    Calls Tryz.prog 60 #[.slice (some ⟨w.heap.size,0,none⟩) k k] ((w.alloc (.cells (ss.map Value.string).toArray 9)).drew) fun e w' => e = .returned (.string ⟨(ss.map fun s => s.data.toList).flatten.toArray⟩) ∧ Below w.heap.size w w':=by
 subst hk
 have HJ:=Tryz.strings_Join w.heap.size 0 ss.length ss ⟨#[]⟩ ((w.alloc (.cells (ss.map Value.string).toArray 9)).drew) (by
     intro j x hx
     obtain ⟨hj,rfl⟩:=List.getElem?_eq_some_iff.1 hx
     have:=new_cells w (ss.map Value.string) 9 j (.string (ss[j]'hj)) (by rw [List.getElem?_map,List.getElem?_eq_getElem hj];rfl)
     rw [add_zero_off] at this
     rw [Nat.zero_add]
     exact this) (by show _ < (w.alloc _).heap.size;simp) (by omega) (nlr _) (by
     show (Lib.join (ss.map fun s => s.data.toList) []).length ≤ _
     rw [join_none];omega)
 have e0 : Lib.join (ss.map fun s => s.data.toList) (⟨#[]⟩ : ByteArray).data.toList = (ss.map fun s => s.data.toList).flatten:=join_none _
 rw [e0] at HJ
 generalize (ss.map fun s => s.data.toList).flatten = t at *
 have HJ:=lhi HJ
 have hb0:=lhi (((Below.refl w.heap.size w).alloc (nlr _) (.cells (ss.map Value.string).toArray 9)).drew)
 generalize (.cells (ss.map Value.string).toArray 9 : Obj) = o at *
 generalize ss.length = k at *
 clear hl e0 h1 h4
 go_enter Tryz.func60,Tryz.ntmps60
 go_wp2_with (go_at_call 85;refine (HJ.out).mono ?_;rintro e w2 ⟨rfl,hb2⟩)
 go_ret
 exact ⟨rfl,hb0.out.trans (hb2.mono hb0.out.size)⟩
section
variable (a b c : ByteArray) (w : World)
theorem joined2d (hl : a.size + b.size ≤ 100000000) :
    Calls Tryz.prog 60 #[.slice (some ⟨w.heap.size,0,none⟩) 2 2] ((w.alloc (.cells #[.string a,.string b] 9)).drew) fun e w' => e = .returned (.string ⟨(a.data.toList ++ b.data.toList).toArray⟩) ∧ Below w.heap.size w w':=by
 have h1:=len_toList a
 have h2:=len_toList b
 have:=joined_lsd [a,b] 2 rfl (by decide) (by decide) (by simp only [List.map_cons,List.map_nil,List.flatten_cons,List.flatten_nil,lla,List.length_nil];omega) w
 simp only [List.map_cons,List.map_nil,List.flatten_cons,List.flatten_nil,List.append_nil] at this
 exact this
theorem joined3d (hl : a.size + b.size + c.size ≤ 100000000) :
    Calls Tryz.prog 60 #[.slice (some ⟨w.heap.size,0,none⟩) 3 3] ((w.alloc (.cells #[.string a,.string b,.string c] 9)).drew) fun e w' => e = .returned (.string ⟨(a.data.toList ++ (b.data.toList ++ c.data.toList)).toArray⟩) ∧ Below w.heap.size w w':=by
 have h1:=len_toList a
 have h2:=len_toList b
 have h3:=len_toList c
 have:=joined_lsd [a,b,c] 3 rfl (by decide) (by decide) (by simp only [List.map_cons,List.map_nil,List.flatten_cons,List.flatten_nil,lla,List.length_nil];omega) w
 simp only [List.map_cons,List.map_nil,List.flatten_cons,List.flatten_nil,List.append_nil] at this
 exact this
end
section
variable {F : Fms} {e : Bool} {o c f u x : ByteArray} {w : World} {A : Option Addr} {m cp : Nat} {ts : List ByteArray} {a b lo hi g : Int} {s : Nat → Bool}
theorem node_2 (hT : Txt0 w A m cp ts) (ha : 0 ≤ a) (ham : a < (m : Int)) (hb : 0 ≤ b) (hbm : b < (m : Int)) : Calls Tryz.prog 37 #[.agg #[.string o,.string c,.string f,.string u,.string x],nodV ⟨2,a,b,lo,hi,g,s⟩,.slice A m cp] w (NdRes F ts ⟨2,a,b,lo,hi,g,s⟩ w):=by
 obtain ⟨ka,ad,sa,rfl,hka,rfl,hca,hta,hla⟩:=hT.part ha ham
 obtain ⟨kb,ad2,sb,rfl,hkb,hA2,hcb,htb,hlb⟩:=hT.part hb hbm
 obtain rfl:=Option.some.inj hA2
 have hI:=lhi (St1.new w o c f u x 2 (ka : Int) (kb : Int) lo hi g s)
 have hst:=lhi (show sa.data.toList ++ sb.data.toList = ntx F (ts.map (·.data.toList)) ⟨2,(ka : Int),(kb : Int),lo,hi,g,s⟩ by rw [← hta,← htb];rfl)
 have hls:=lhi (show sa.size + sb.size ≤ 100000000 by omega)
 have hp : ∀ (w1 : World),Below w.heap.size w w1 → w1.cell? (ad.add ka) = some (.string sa) ∧ w1.cell? (ad.add kb) = some (.string sb):=fun w1 h => by
  obtain ⟨ad3,h3,hlt,-⟩:=hT.vals.at_ (k:=ka) (by rw [List.length_map,← hT.len];exact hka)
  obtain rfl:=Option.some.inj h3
  exact ⟨(h.cell (p:=ad.add ka) (by rw [block_add];exact hlt)).trans hca,(h.cell (p:=ad.add kb) (by rw [block_add];exact hlt)).trans hcb⟩
 obtain ⟨t1,t2⟩:=hp _ hI.out.be
 replace hp:=lhi hp
 have hnd:=lhi (fun (w1 : World) (h : St1 w w1 o c f u x 2 (ka : Int) (kb : Int) lo hi g s) => (⟨h.nd.at_ (i:=1) rfl,h.nd.at_ (i:=2) rfl⟩ : w1.cell? ⟨w.heap.size + 1,1,none⟩ = some (.int .i64 (ka : Int)) ∧ w1.cell? ⟨w.heap.size + 1,2,none⟩ = some (.int .i64 (kb : Int))))
 obtain ⟨n1,n2⟩:=hnd.out _ hI.out
 have gk1 : ¬ m ≤ ka:=by omega
 have gk2 : ¬ m ≤ kb:=by omega
 have gd1 : decide (m ≤ ka) = false:=decide_eq_false gk1
 have gd2 : decide (m ≤ kb) = false:=decide_eq_false gk2
 rw [nodV_lit]
 clear hT hta htb hla hlb ha ham hb hbm hca hcb
 go_enter Tryz.func37,Tryz.ntmps37
 go_wp2
 generalize ((w.alloc (.cells #[.string o,.string c,.string f,.string u,.string x] 49)).alloc (.cells #[.int .i64 2,.int .i64 (ka : Int),.int .i64 (kb : Int),.int .i64 lo,.int .i64 hi,.int .i64 g,.int .u64 (wd s 0 : Nat),.int .u64 (wd s 1 : Nat),.int .u64 (wd s 2 : Nat),.int .u64 (wd s 3 : Nat)] 43)) = w2 at *
 obtain ⟨G,hG⟩ : ∃ G,G = w.heap.size + 1:=⟨_,rfl⟩
 rw [← hG] at n1 n2 hnd ⊢
 replace hG:=lhi hG
 go_region_held3 (fun w' => w'.cell? ⟨G,1,none⟩ = some (.int .i64 (ka : Int)) ∧ w'.cell? ⟨G,2,none⟩ = some (.int .i64 (kb : Int)) ∧ w'.cell? (ad.add ka) = some (.string sa) ∧ w'.cell? (ad.add kb) = some (.string sb)) (go_keep) (first
  | (go_at_call 60;refine (joined2d sa sb w2 hls.out).mono ?_;rintro en w1 ⟨rfl,hb1⟩;obtain ⟨q1,q2⟩:=hnd.out _ (hI.out.keep hb1);obtain ⟨q3,q4⟩:=hp.out _ (hI.out.be.trans (hb1.mono hI.out.be.size));replace hb1:=lhi hb1))
 go_wp2
 go_ret
 exact ⟨ret_str hst.out,hI.out.be.trans (hb1.out.mono hI.out.be.size)⟩
end
end Go.Proofs.YtonjnagcdnmcpaaGreatDoor
