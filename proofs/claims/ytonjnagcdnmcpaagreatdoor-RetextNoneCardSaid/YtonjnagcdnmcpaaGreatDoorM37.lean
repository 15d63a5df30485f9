/- Contracts and plain facts: M37. -/
import Derived.Test.YtonjnagcdnmcpaaGreatDoorM36
set_option linter.unusedVariables false
set_option linter.unusedSimpArgs false
set_option maxRecDepth 100000
set_option maxHeartbeats 32000000
namespace Go.Proofs.YtonjnagcdnmcpaaGreatDoor
open Go.RowKit
theorem eext_any {V : Nat → Nat} {w : World} {B T : Nat} {A : Option Addr} {n c : Nat} {l : List UInt8} {v : Value} {ns : List Nod} {g i : Nat} {cl : Nat → Bool} {inG first : Bool} (h : Rdr w B T A n c l v ns g i cl 0) (hp : PieAt l i inG) (hV : Pot l V) (hrm : ns.length + V i < 1000) (hB : ∀ k,k < n - i → EAltOK k) :
    Calls Tryz.prog 52 #[.pointer (some ⟨T,0,none⟩),.bool first] w (ENode V true w B T A n c l v ns g i cl inG):=by
 have hnl:=h.hn
 have hlt:=hp.lt
 have hl : ns.length < 1000:=by omega
 have hx:=List.drop_eq_getElem_cons hlt
 generalize l[i] = x at hx
 by_cases x0 : repB x
 · exact eext_rep h hp hx x0
 by_cases x1 : x = 41
 · subst x1;exact eext_par h hp hx
 by_cases x2 : x = 94
 · subst x2;exact eext_bol h hp hl hV hx
 by_cases x3 : x = 36
 · subst x3;exact eext_eol h hp hl hV hx
 exact eext_body h hp hV hrm hB hx x0 x1 x2 x3
def RelAlt (V : Nat → Nat) (w : World) (B T : Nat) (A : Option Addr) (n c : Nat) (l : List UInt8) (v : Value) (ns : List Nod) (g i : Nat) (cl : Nat → Bool) (inG : Bool) (s5 : Value) (wr : World) : Prop :=
 ∃ v' ns' g' i' cl' bs,Rdr wr B T A n c l v' ns' g' i' cl' 0 ∧ ChP w wr T v v' ∧ Pcs w.heap.size wr s5 bs ∧ (∀ p ∈ bs,okP (ns'.length : Int) p = true) ∧ ns.length ≤ ns'.length ∧ ns'.length + 3 * bs.length + V i' ≤ ns.length + V i ∧ g ≤ g' ∧ i ≤ i' ∧
  ∀ lv,lv.isEmpty = !inG → StepsE l ⟨.B,i,ns,g,cl,[],[],lv⟩ ⟨.B,i',ns',g',cl',[],bs,lv⟩
def RelEB (V : Nat → Nat) (W : Nat) (w : World) (B T : Nat) (A : Option Addr) (n c : Nat) (l : List UInt8) (v : Value) (ns : List Nod) (g i i1 : Nat) (cl : Nat → Bool) (inG : Bool) (bs : List Int) (s5 s6 : Value) (wr : World) : Prop :=
 (∃ v' ns' g' i' cl' ps,Rdr wr B T A n c l v' ns' g' i' cl' 0 ∧ ChP w wr T v v' ∧ Pcs w.heap.size wr s5 bs ∧ Pcs W wr s6 ps ∧ (∀ p ∈ bs,okP (ns'.length : Int) p = true) ∧ (∀ p ∈ ps,okP (ns'.length : Int) p = true) ∧ ns.length ≤ ns'.length ∧ ns'.length + ps.length + 3 * bs.length + V i' ≤ ns.length + V i ∧ g ≤ g' ∧ i ≤ i' ∧ i1 ≤ i' ∧
  ∀ lv,lv.isEmpty = !inG → StepsE l ⟨.B,i,ns,g,cl,[],[],lv⟩ ⟨ctOf ps,i',ns',g',cl',ps,bs,lv⟩) ∨
 (∃ v' ns' g' i' cl' q,q ≠ 0 ∧ Rdr wr B T A n c l v' ns' g' i' cl' q ∧ ChP w wr T v v' ∧ ∀ lv,lv.isEmpty = !inG → EndsE l ⟨.B,i,ns,g,cl,[],[],lv⟩ (.bad i' q))
def RelX (V : Nat → Nat) (W : Nat) (w : World) (B T : Nat) (A : Option Addr) (n c : Nat) (l : List UInt8) (v : Value) (ns : List Nod) (g i i1 : Nat) (cl : Nat → Bool) (inG : Bool) (bs : List Int) (s5 s6 : Value) (wr : World) : Prop :=
 (∃ v' ns' g' i' cl' ps,(n ≤ i' ∨ nx l i' = 124 ∨ (inG = true ∧ nx l i' = 41)) ∧ Rdr wr B T A n c l v' ns' g' i' cl' 0 ∧ ChP w wr T v v' ∧ Pcs w.heap.size wr s5 bs ∧ Pcs W wr s6 ps ∧ (∀ p ∈ bs,okP (ns'.length : Int) p = true) ∧ (∀ p ∈ ps,okP (ns'.length : Int) p = true) ∧ ns.length ≤ ns'.length ∧ ns'.length + ps.length + 3 * bs.length + V i' ≤ ns.length + V i ∧ g ≤ g' ∧ i ≤ i' ∧ i1 ≤ i' ∧
  ∀ lv,lv.isEmpty = !inG → StepsE l ⟨.B,i,ns,g,cl,[],[],lv⟩ ⟨ctOf ps,i',ns',g',cl',ps,bs,lv⟩) ∨
 (∃ v' ns' g' i' cl' q,q ≠ 0 ∧ Rdr wr B T A n c l v' ns' g' i' cl' q ∧ ChP w wr T v v' ∧ ∀ lv,lv.isEmpty = !inG → EndsE l ⟨.B,i,ns,g,cl,[],[],lv⟩ (.bad i' q))
def RelEnd (V : Nat → Nat) (w : World) (B T : Nat) (A : Option Addr) (n c : Nat) (l : List UInt8) (v : Value) (ns : List Nod) (g i : Nat) (cl : Nat → Bool) (inG : Bool) (s5 : Value) (wr : World) : Prop :=
 ∃ v' ns' g' i' cl' ns1 ps bs x,nx l i' ≠ 124 ∧ (n ≤ i' ∨ (inG = true ∧ nx l i' = 41)) ∧ chn 2 ns1 ps = (x,ns') ∧ Rdr wr B T A n c l v' ns' g' i' cl' 0 ∧ ChP w wr T v v' ∧ Pcs w.heap.size wr s5 (bs ++ [x]) ∧ (∀ p ∈ bs ++ [x],okP (ns'.length : Int) p = true) ∧ ns.length ≤ ns'.length ∧ ns'.length + 3 * bs.length + V i' ≤ ns.length + V i ∧ g ≤ g' ∧ i ≤ i' ∧
  ∀ lv,lv.isEmpty = !inG → StepsE l ⟨.B,i,ns,g,cl,[],[],lv⟩ ⟨.L,i',ns1,g',cl',ps,bs,lv⟩
def RelJ (w : World) (B T : Nat) (A : Option Addr) (n c : Nat) (l : List UInt8) (v : Value) (ns : List Nod) (g i : Nat) (cl : Nat → Bool) (e : Nat) (x : Int) (r : List Int) (kv iv : Value) (wr : World) : Prop :=
 ∃ j : Nat,j ≤ r.length ∧ iv = .int .i64 ((j : Int) + 1) ∧
 ((e = 0 ∧ ∃ y v' ns',kv = .int .i64 y ∧ chnF 3 x ns (r.take j) = (y,ns') ∧ okP (ns'.length : Int) y = true ∧ ns'.length = ns.length + j ∧ Rdr wr B T A n c l v' ns' g i cl 0 ∧ ChP w wr T v v') ∨
 (e ≠ 0 ∧ ∃ y v',kv = .int .i64 y ∧ Rdr wr B T A n c l v' ns g i cl e ∧ ChP w wr T v v'))
section
variable {V : Nat → Nat} {W : Nat} {w wr w3 w5 w7 : World} {B T : Nat} {A : Option Addr} {n c : Nat} {l : List UInt8} {v v2 v7 : Value} {ns ns2 : List Nod} {g g2 i i1 i2 : Nat} {cl cl2 : Nat → Bool} {inG : Bool} {s5 s6 : Value} {bs ps : List Int} {z : Int}
theorem relB_next (h2 : Rdr wr B T A n c l v2 ns2 g2 i2 cl2 0) (k2 : ChP w wr T v v2) (p5 : Pcs w.heap.size wr s5 bs) (p6 : Pcs W wr s6 ps) (q1 : ∀ p ∈ bs,okP (ns2.length : Int) p = true) (q2 : ∀ p ∈ ps,okP (ns2.length : Int) p = true)
    (r1 : ns.length ≤ ns2.length) (r2 : ns2.length + ps.length + 3 * bs.length + V i2 ≤ ns.length + V i) (r3 : g ≤ g2) (r4 : i ≤ i2) (r5 : i1 ≤ i2)
    (q6 : ∀ lv,lv.isEmpty = !inG → StepsE l ⟨.B,i,ns,g,cl,[],[],lv⟩ ⟨ctOf ps,i2,ns2,g2,cl2,ps,bs,lv⟩) (hT : T < w.heap.size) (hW : w.heap.size ≤ W) (h5 : ∀ k,s5.ownBlock = some k → k < W)
    (hb : Below wr.heap.size wr w3) (hy : ENode V true w3 B T A n c l v2 ns2 g2 i2 cl2 inG (.returned (.int .i64 z)) w5)
    (ho : w7.ownsRow W 3 1 v7 (ps.length + 1) (ps.map (Value.int .i64) ++ [.int .i64 z])) (hg : (w5.alloc (.cells #[.int .i64 z] 3)).grownBy w7 s6.ownBlock) :
    RelEB V W w B T A n c l v ns g i i1 cl inG bs s5 v7 w7 ∧ leftR n T w7 < leftR n T wr:=by
 have hTW : T < W:=by omega
 have hle:=h2.le
 have hd : ∀ k,s5.ownBlock = some k → s6.ownBlock ≠ some k:=fun k e e6 => by have:=h5 k e;have:=p6.lt k e6;omega
 rcases hy with ⟨x,v',ns',g',i',cl',e1,ok',h3,h4,a1,a0,a2,a3,a4⟩ | ⟨x,v',ns',g',i',cl',q,hq,e1,h3,h4,a4⟩
 · obtain rfl : z = x:=by simpa using e1
   have hp5:=((p5.below hb).chr (h2.keep hb) h4 hT).below (below_one w5 z)
   have hp6:=((p6.below hb).chr (h2.keep hb) h4 hTW).below (below_one w5 z)
   have h7:=(h3.keep (below_one w5 z)).grown hp6 hg hTW
   refine ⟨.inl ⟨v',ns',g',i',cl',ps ++ [z],h7,(((k2.trans (ChP.of_below hb)).trans h4).trans (ChP.of_below (below_one w5 z))).grown hg (fun k e => by have:=p6.lt k e;omega),hp5.keptBy hg hd,hp6.more ho hg.size,fun y hy => okP_more (q1 y hy) (by omega),fun y hy => ?_,by omega,by rw [lla,lls];omega,by omega,by omega,by omega,fun lv hlv => ?_⟩,by rw [h7.left,h2.left];omega⟩
   · rcases List.mem_append.1 hy with hy | hy
     · exact okP_more (q2 y hy) (by omega)
     · simp only [List.mem_singleton] at hy;subst hy;exact ok'
   · rw [ctOf_snoc]
     exact (q6 lv hlv).trans (a4 (ctOf ps) ps bs lv (by unfold ctOf;cases ps.isEmpty <;> simp) hlv)
 · have hp6:=((p6.below hb).chr (h2.keep hb) h4 hTW).below (below_one w5 z)
   have h7:=(h3.keep (below_one w5 z)).grown hp6 hg hTW
   exact ⟨.inr ⟨v',ns',g',i',cl',q,hq,h7,(((k2.trans (ChP.of_below hb)).trans h4).trans (ChP.of_below (below_one w5 z))).grown hg (fun k e => by have:=p6.lt k e;omega),fun lv hlv => (q6 lv hlv).ends (a4 (ctOf ps) ps bs lv (by unfold ctOf;cases ps.isEmpty <;> simp) hlv)⟩,by rw [h7.left0 hq,h2.left];omega⟩
theorem relX_none {x : Int} (h2 : Rdr wr B T A n c l v2 ns2 g2 i2 cl2 0) (k2 : ChP w wr T v v2) (he : n ≤ i2 ∨ nx l i2 = 124 ∨ (inG = true ∧ nx l i2 = 41))
    (q6 : ∀ lv,lv.isEmpty = !inG → StepsE l ⟨.B,i,ns,g,cl,[],[],lv⟩ ⟨.B,i2,ns2,g2,cl2,[],bs,lv⟩) : EAlt V w B T A n c l v ns g i cl inG (.returned (.int .i64 x)) (wr.setCell ⟨T,2,none⟩ (.int .i64 15)):=by
 have hnl:=h2.hn
 refine .inr ⟨x,v2,ns2,g2,i2,cl2,15,by decide,rfl,h2.erred 15 (z:=15) rfl,k2.trans (ChP.store wr T 2 (.int .i64 15) v2),fun lv hlv => (q6 lv hlv).ends (.bad ?_)⟩
 show stepEB l _ = _
 simp only [stepEB]
 rw [if_pos ?_]
 rcases he with he | he | ⟨rfl,he⟩
 · exact .inl (by omega)
 · exact .inr (.inl he)
 · exact .inr (.inr ⟨fun e => by rw [e] at hlv;simp at hlv,he⟩)
theorem alt_put (h2 : Rdr wr B T A n c l v2 ns2 g2 i2 cl2 0) (k2 : ChP w wr T v v2) (p5 : Pcs w.heap.size wr s5 bs) (q1 : ∀ p ∈ bs,okP (ns2.length : Int) p = true) (hps : ps ≠ []) (hl : ns2.length + ps.length ≤ 1000) (hT : T < w.heap.size)
    (hy : RCat wr B T A n c l v2 ns2 g2 i2 cl2 ps (.returned (.int .i64 z)) w5)
    (ho : w7.ownsRow w.heap.size 3 1 v7 (bs.length + 1) (bs.map (Value.int .i64) ++ [.int .i64 z])) (hg : (w5.alloc (.cells #[.int .i64 z] 3)).grownBy w7 s5.ownBlock) :
    ∃ v' ns',chn 2 ns2 ps = (z,ns') ∧ Rdr w7 B T A n c l v' ns' g2 i2 cl2 0 ∧ ChP w w7 T v v' ∧ Pcs w.heap.size w7 v7 (bs ++ [z]) ∧ (∀ p ∈ bs ++ [z],okP (ns'.length : Int) p = true) ∧ ns2.length ≤ ns'.length ∧ ns'.length + 1 = ns2.length + ps.length:=by
 have hc:=catS_chn (ns:=ns2) hps hl
 have hlen:=chn_len 2 ns2 hps
 rcases hy with ⟨x,v',ns',e1,e2,ok',e3,h3,k3⟩ | ⟨x,v',ns',e1,e2,h3,k3⟩
 · obtain rfl : z = x:=by simpa using e1
   have e4 : chn 2 ns2 ps = (z,ns'):=by rw [hc] at e2;exact Option.some.inj e2
   have hp5:=((p5.chr h2 k3 hT).below (below_one w5 z))
   have h7:=(h3.keep (below_one w5 z)).grown hp5 hg hT
   rw [e4] at hlen
   refine ⟨v',ns',e4,h7,(((k2.trans k3).trans (ChP.of_below (below_one w5 z)))).grown hg p5.lt,hp5.more ho hg.size,fun y hy => ?_,e3,hlen⟩
   rcases List.mem_append.1 hy with hy | hy
   · exact okP_more (q1 y hy) (by omega)
   · simp only [List.mem_singleton] at hy;subst hy;exact ok'
 · rw [hc] at e2;cases e2
theorem alt_bar {v3 : Value} {ns3 : List Nod} (h7 : Rdr w7 B T A n c l v3 ns3 g2 i2 cl2 0) (k7 : ChP w w7 T v v3) (p7 : Pcs w.heap.size w7 v7 (bs ++ [z])) (q7 : ∀ p ∈ bs ++ [z],okP (ns3.length : Int) p = true) (hc : chn 2 ns2 ps = (z,ns3))
    (a1 : ns2.length ≤ ns3.length) (a2 : ns3.length + 1 = ns2.length + ps.length) (r1 : ns.length ≤ ns2.length) (r2 : ns2.length + ps.length + 3 * bs.length + V i2 ≤ ns.length + V i) (r3 : g ≤ g2) (r4 : i ≤ i2)
    (q6 : ∀ lv,lv.isEmpty = !inG → StepsE l ⟨.B,i,ns,g,cl,[],[],lv⟩ ⟨.L,i2,ns2,g2,cl2,ps,bs,lv⟩) (hT : T < w.heap.size) (hz : nx l i2 = 124) (hV : Pot l V) :
    RelAlt V w B T A n c l v ns g i cl inG v7 (w7.setCell ⟨T,1,none⟩ (.int .i64 ((i2 : Int) + 1))) ∧ leftR n T (w7.setCell ⟨T,1,none⟩ (.int .i64 ((i2 : Int) + 1))) = n - i2:=by
 have hnl:=h7.hn
 have hw:=hV.one i2 (.inr (.inr (.inr (.inr (.inr hz)))))
 have hlt:=nx_lt (l:=l) (i:=i2) (by omega)
 have h8:=h7.goto (j:=i2 + 1) (by omega) (z:=(i2 : Int) + 1) (by omega)
 refine ⟨⟨v3,ns3,g2,i2 + 1,cl2,bs ++ [z],h8,k7.trans (ChP.store w7 T 1 _ v3),p7.chr h7 (ChP.store w7 T 1 _ v3) hT,q7,by omega,by rw [lla,lls];omega,r3,by omega,fun lv hlv => (q6 lv hlv).snoc ?_⟩,by rw [h8.left];omega⟩
 show stepEL l _ = _
 simp only [stepEL]
 rw [if_neg (by omega),if_pos hz]
 simp only [branE,hc]
theorem alt_end {v3 : Value} {ns3 : List Nod} (h7 : Rdr w7 B T A n c l v3 ns3 g2 i2 cl2 0) (k7 : ChP w w7 T v v3) (p7 : Pcs w.heap.size w7 v7 (bs ++ [z])) (q7 : ∀ p ∈ bs ++ [z],okP (ns3.length : Int) p = true) (hc : chn 2 ns2 ps = (z,ns3))
    (a1 : ns2.length ≤ ns3.length) (a2 : ns3.length + 1 = ns2.length + ps.length) (r1 : ns.length ≤ ns2.length) (r2 : ns2.length + ps.length + 3 * bs.length + V i2 ≤ ns.length + V i) (r3 : g ≤ g2) (r4 : i ≤ i2)
    (q6 : ∀ lv,lv.isEmpty = !inG → StepsE l ⟨.B,i,ns,g,cl,[],[],lv⟩ ⟨.L,i2,ns2,g2,cl2,ps,bs,lv⟩) (hz : nx l i2 ≠ 124) (he : n ≤ i2 ∨ nx l i2 = 124 ∨ (inG = true ∧ nx l i2 = 41)) :
    RelEnd V w B T A n c l v ns g i cl inG v7 w7 :=
 ⟨v3,ns3,g2,i2,cl2,ns2,ps,bs,z,hz,he.elim .inl (fun k => k.elim (fun e => absurd e hz) .inr),hc,h7,k7,p7,q7,by omega,by omega,r3,r4,q6⟩
def RelT (w : World) (B T : Nat) (A : Option Addr) (n c : Nat) (l : List UInt8) (v : Value) (ns1 : List Nod) (g1 i1 : Nat) (cl1 : Nat → Bool) (inG : Bool) (s5 : Value) (bs : List Int) (wx : World) : Prop :=
 ∃ e v',Rdr wx B T A n c l v' ns1 g1 i1 cl1 e ∧ ChP w wx T v v' ∧ Pcs w.heap.size wx s5 bs ∧ (e = 0 → if inG then nx l i1 = 41 else i1 = n) ∧ (e ≠ 0 → inG = true ∧ n ≤ i1 ∧ e = 14)
theorem alt_done {x x0 y : Int} {r : List Int} {v0 v' : Value} {w0 : World} {ns0 ns1 ns' : List Nod} {g1 : Nat} {cl1 : Nat → Bool} (h' : Rdr wr B T A n c l v' ns' g1 i1 cl1 0) (k0 : ChP w w0 T v v0) (k' : ChP w0 wr T v0 v') (hL : bs ++ [x] = x0 :: r) (hc : chn 2 ns0 ps = (x,ns1)) (hr : chnF 3 x0 ns1 r = (y,ns')) (ok' : okP (ns'.length : Int) y = true) (hn' : ns'.length = ns1.length + r.length)
    (r1 : ns.length ≤ ns1.length) (r2 : ns1.length + 3 * bs.length + V i1 ≤ ns.length + V i) (r3 : g ≤ g1) (r4 : i ≤ i1) (he : if inG then nx l i1 = 41 else i1 = n)
    (q6 : ∀ lv,lv.isEmpty = !inG → StepsE l ⟨.B,i,ns,g,cl,[],[],lv⟩ ⟨.L,i1,ns0,g1,cl1,ps,bs,lv⟩) : EAlt V w B T A n c l v ns g i cl inG (.returned (.int .i64 y)) wr:=by
 have hll : r.length = bs.length:=by have:=congrArg List.length hL;simp at this;omega
 refine .inl ⟨y,v',ns',g1,i1,cl1,ns0,ps,bs,rfl,ok',h',k0.trans k',by omega,by omega,r3,r4,he,fun lv hlv => ⟨?_,q6 lv hlv⟩⟩
 simp only [altsE,branE,hc]
 rw [hL,chn_cons,hr]
theorem alt_open {y : Int} {v0 v' : Value} {w0 : World} {ns0 ns1 : List Nod} {g1 : Nat} {cl1 : Nat → Bool} (h' : Rdr wr B T A n c l v' ns1 g1 i1 cl1 14) (k0 : ChP w w0 T v v0) (k' : ChP w0 wr T v0 v') (he : n ≤ i1)
    (q6 : ∀ lv,lv.isEmpty = !true → StepsE l ⟨.B,i,ns,g,cl,[],[],lv⟩ ⟨.L,i1,ns0,g1,cl1,ps,bs,lv⟩) : EAlt V w B T A n c l v ns g i cl true (.returned (.int .i64 y)) wr:=by
 have hnl:=h'.hn
 refine .inr ⟨y,v',ns1,g1,i1,cl1,14,by decide,rfl,h',k0.trans k',fun lv hlv => (q6 lv hlv).ends (.bad ?_)⟩
 show stepEL l _ = _
 simp only [stepEL]
 rw [if_pos (by omega)]
 cases lv with
 | nil => simp at hlv
 | cons a b => rfl
end
def IfAt (wt : World) (n : Nat) (l : List UInt8) (i1 : Nat) (inG b : Bool) (wx : World) : Prop:=Below wt.heap.size wt wx ∧ (b = true → inG = true ∧ n ≤ i1) ∧ (b = false → if inG then nx l i1 = 41 else i1 = n)
section
variable {V : Nat → Nat} {w : World} {B T : Nat} {A : Option Addr} {n c : Nat} {l : List UInt8} {v : Value} {ns : List Nod} {g i : Nat} {cl : Nat → Bool} {inG : Bool}
variable {V : Nat → Nat} (h : Rdr w B T A n c l v ns g i cl 0)
include h
theorem ealt_any (hV : Pot l V) (hrm : ns.length + V i < 1000) (hB : ∀ k,k < n - i → EAltOK k) :
    Calls Tryz.prog 32 #[.pointer (some ⟨T,0,none⟩),.bool inG] w (EAlt V w B T A n c l v ns g i cl inG):=by
 obtain ⟨i0,hi0,hz0,hz1,hz2⟩:=info_parts ints_info
 replace hz1:=lhi hz1
 replace hz2:=lhi hz2
 have hh:=lhi h
 have hTl:=lhi h.lt
 have hle:=h.le
 have hns : n ≤ 1000000:=h.txt.2.2.2.1
 have hB':=lhi hB
 have hrm':=lhi hrm
 replace hV:=lhi hV
 clear hB hrm
 have hst:=lhi (show RelAlt V w B T A n c l v ns g i cl inG (.slice none 0 0) w from ⟨v,ns,g,i,cl,[],h,ChP.of_below (Below.refl _ _),Pcs.nil_ w,fun p hp => (by cases hp),nlr _,by simp,nlr _,nlr _,fun lv hlv => .refl _⟩)
 clear h
 go_enter Tryz.func32,Tryz.ntmps32
 go_upto_block 0 with (fail)
 go_cut [5] from 6 to 75 (fun s5 wx => RelEnd V w B T A n c l v ns g i cl inG s5 wx)
 case first =>
  go_wp2_with (fail)
  go_loopw [5,6] (fun a _ wr => RelAlt V w B T A n c l v ns g i cl inG a wr) (fun _ _ wr => leftR n T wr)
  case atStart => exact hst.out
  case round =>
   clear hst
   obtain ⟨v1,ns1,g1,i1,cl1,bs,h1,k1,p1,q1,r1,r2,r3,r4,q6⟩:=hrel
   obtain ⟨Ap,kp,rfl,-,-,-,-⟩:=p1.slice
   have hle1:=h1.le
   have hleft:=lhi h1.left
   have hWs:=p1.base
   have h5:=lhi p1.below_of
   have hIn:=lhi (show RelEB V wr.heap.size w B T A n c l v ns g i i1 cl inG bs (.slice Ap bs.length kp) (.slice none 0 0) wr from .inl ⟨v1,ns1,g1,i1,cl1,[],h1,k1,p1,Pcs.nil_ wr,q1,by simp,r1,by simp;omega,r3,r4,nlr _,q6⟩)
   have hbl : bs.length ≤ 600:=by have:=hrm'.out;omega
   have hi1 : i1 ≤ n:=hle1
   clear h1 k1 p1 q1 r1 r2 r3 r4 q6 hle1
   rename World => wo
   go_upto_block 2 with (fail)
   go_cut [6] from 9 to 40 (fun s6 wx => RelX V wo.heap.size w B T A n c l v ns g i i1 cl inG bs (.slice Ap bs.length kp) s6 wx)
   case first =>
    clear hleft
    go_wp2_with (fail)
    go_loopw [6] (fun b wi => RelEB V wo.heap.size w B T A n c l v ns g i i1 cl inG bs (.slice Ap bs.length kp) b wi) (fun _ wi => leftR n T wi)
    case atStart => exact hIn.out
    case round =>
     clear hIn
     rcases hrel with ⟨v2,ns2,g2,i2,cl2,ps,h2,k2,p5,p6,q1,q2,r1,r2,r3,r4,r5,q6⟩ | ⟨v2,ns2,g2,i2,cl2,q,hq,h2,k2,q6⟩
     · obtain ⟨A6,k6,rfl,-,-,-,-⟩:=p6.slice
       have c2:=h2.c2
       have hnl:=h2.hn
       have hle2:=h2.le
       have hN0:=lhi (fun w3 (hb : Below wr.heap.size wr w3) => next_at (h2.keep hb) 0 0 rfl (by decide))
       rw [Nat.add_zero] at hN0
       have hbL:=lhi (show Below wr.heap.size wr wr from Below.refl _ _)
       have hpl : ps.length ≤ 1000:=by have:=hrm'.out;omega
       have hout:=lhi (fun (he : n ≤ i2 ∨ nx l i2 = 124 ∨ (inG = true ∧ nx l i2 = 41)) w3 (hb : Below wr.heap.size wr w3) => show RelX V wo.heap.size w B T A n c l v ns g i i1 cl inG bs (.slice Ap bs.length kp) (.slice A6 ps.length k6) w3 from .inl ⟨v2,ns2,g2,i2,cl2,ps,he,h2.keep hb,k2.trans (ChP.of_below hb),p5.below hb,p6.below hb,q1,q2,r1,r2,r3,r4,r5,q6⟩)
       by_cases hin : n ≤ i2
       · have hz : nx l i2 = -1:=nx_none (by omega)
         rw [hz] at hN0
         replace hout:=lhi (hout.out (.inl hin))
         clear h2 k2 p5 p6 q1 q2 r1 r2 r3 r4 r5 q6 hnl hle2 hin hz
         go_wp2_with (go_at_call 51;refine (hN0.out _ hbL.out).mono ?_;rintro y w1 ⟨rfl,hq⟩;replace hbL:=lhi (hbL.out.trans (hq.mono hbL.out.size));clear hq)
         go_meet
         exact hout.out _ hbL.out
       · by_cases hz : nx l i2 = 124
         · rw [hz] at hN0
           replace hout:=lhi (hout.out (.inr (.inl hz)))
           clear h2 k2 p5 p6 q1 q2 r1 r2 r3 r4 r5 q6 hnl hle2 hin hz
           go_wp2_with (go_at_call 51;refine (hN0.out _ hbL.out).mono ?_;rintro y w1 ⟨rfl,hq⟩;replace hbL:=lhi (hbL.out.trans (hq.mono hbL.out.size));clear hq)
           go_meet
           exact hout.out _ hbL.out
         · have hlt : i2 < l.length:=by omega
           have hge : 0 ≤ nx l i2:=by
            rw [nx_some (List.getElem?_eq_getElem hlt)];omega
           have hb124 : (nx l i2 != 124) = true:=by rw [bne_iff_ne];exact hz
           have hcon:=lhi (fun (w3 : World) (hb : Below wr.heap.size wr w3) (z : Int) (w5 : World) (hy : ENode V true w3 B T A n c l v2 ns2 g2 i2 cl2 inG (.returned (.int .i64 z)) w5) (v7 : Value) (w7 : World) ho hg => relB_next (i1:=i1) h2 k2 p5 p6 q1 q2 r1 r2 r3 r4 r5 q6 hTl.out hWs h5.out hb hy (v7:=v7) (w7:=w7) ho hg)
           have hkeep:=lhi (fun (w3 : World) (hb : Below wr.heap.size wr w3) (y : Ending) (w5 : World) (hy : ENode V true w3 B T A n c l v2 ns2 g2 i2 cl2 inG y w5) => show Pcs wo.heap.size w5 (.slice A6 ps.length k6) ps from by
            have hTo : T < wo.heap.size:=nll hTl.out hWs
            rcases hy with ⟨x,v',ns',g',i',cl',h1,h2',h3,h4,h5⟩ | ⟨x,v',ns',g',i',cl',q,h1,h2',h3,h4,h5⟩
            · exact (p6.below hb).chr (h2.keep hb) h4 hTo
            · exact (p6.below hb).chr (h2.keep hb) h4 hTo)
           have hPc:=lhi (fun (hp : PieAt l i2 inG) (first : Bool) (w3 : World) (hb : Below wr.heap.size wr w3) => eext_any (inG:=inG) (first:=first) (h2.keep hb) hp hV.out (by have:=hrm'.out;omega) (fun k hk => hB'.out k (by omega)))
           have hp6b:=p6.base
           cases inG with
           | true =>
            by_cases h41 : nx l i2 = 41
            · rw [h41] at hN0
              replace hout:=lhi (hout.out (.inr (.inr ⟨rfl,h41⟩)))
              clear h2 k2 p5 p6 q1 q2 r1 r2 r3 r4 r5 q6 hnl hle2 hin hz hb124 hge h41 hcon hkeep hPc hlt
              go_wp2_with (go_at_call 51;refine (hN0.out _ hbL.out).mono ?_;rintro y w1 ⟨rfl,hq⟩;replace hbL:=lhi (hbL.out.trans (hq.mono hbL.out.size));clear hq)
              go_meet
              exact hout.out _ hbL.out
            · have hb41 : (nx l i2 == 41) = false:=by rw [bef];exact h41
              replace hPc:=lhi (hPc.out ⟨hlt,hz,fun _ => h41⟩)
              clear h2 k2 p5 p6 q1 q2 r1 r2 r3 r4 r5 q6 hnl hle2 hin hz h41 hlt hout
              generalize nx l i2 = d at *
              go_wp2_with (first
               | (go_at_call 51;refine (hN0.out _ hbL.out).mono ?_;rintro y w1 ⟨rfl,hq⟩;replace hbL:=lhi (hbL.out.trans (hq.mono hbL.out.size));clear hq)
               | (go_at_call 52;refine (hPc.out _ _ hbL.out).mono ?_;intro y w5 hy;obtain ⟨z,rfl,hy⟩:=hy.ret;have hq:=lhi (hcon.out _ hbL.out _ _ hy);replace hy:=lhi hy;have hpc5:=lhi (hkeep.out _ hbL.out _ _ hy.out))
               | (at_builtin;go_loud (refine wpList_append_at rfl _ _ 53 rfl wo.heap.size 3 i0 (.int .i64 0) 1 8 Tryz.underlying53 hi0 hz0 hz1.out hz2.out rfl (by decide) (.slice A6 ps.length k6) ps.length (ps.map (Value.int .i64)) rfl (own_below hpc5.out.own (below_one w5 z)) (some ⟨w5.heap.size,0,none⟩) 1 1 [.int .i64 z] rfl rfl (src_int w5 z) (one_int z) (by unfold maxLen;omega) (by omega) (by have:=hpc5.out.base;simp;omega) ?_;intro v7 w7 hown7 hg7 _;replace hown7:=lhi hown7;replace hg7:=lhi hg7)))
              have hfin:=lhi (hq.out _ _ hown7.out hg7.out)
              go_roundw
              case rel => exact hfin.out.1
              case measure => exact hfin.out.2
           | false =>
            replace hPc:=lhi (hPc.out ⟨hlt,hz,fun e => by cases e⟩)
            clear h2 k2 p5 p6 q1 q2 r1 r2 r3 r4 r5 q6 hnl hle2 hin hz hlt hout
            generalize nx l i2 = d at *
            go_wp2_with (first
             | (go_at_call 51;refine (hN0.out _ hbL.out).mono ?_;rintro y w1 ⟨rfl,hq⟩;replace hbL:=lhi (hbL.out.trans (hq.mono hbL.out.size));clear hq)
             | (go_at_call 52;refine (hPc.out _ _ hbL.out).mono ?_;intro y w5 hy;obtain ⟨z,rfl,hy⟩:=hy.ret;have hq:=lhi (hcon.out _ hbL.out _ _ hy);replace hy:=lhi hy;have hpc5:=lhi (hkeep.out _ hbL.out _ _ hy.out))
             | (at_builtin;go_loud (refine wpList_append_at rfl _ _ 53 rfl wo.heap.size 3 i0 (.int .i64 0) 1 8 Tryz.underlying53 hi0 hz0 hz1.out hz2.out rfl (by decide) (.slice A6 ps.length k6) ps.length (ps.map (Value.int .i64)) rfl (own_below hpc5.out.own (below_one w5 z)) (some ⟨w5.heap.size,0,none⟩) 1 1 [.int .i64 z] rfl rfl (src_int w5 z) (one_int z) (by unfold maxLen;omega) (by omega) (by have:=hpc5.out.base;simp;omega) ?_;intro v7 w7 hown7 hg7 _;replace hown7:=lhi hown7;replace hg7:=lhi hg7)))
            have hfin:=lhi (hq.out _ _ hown7.out hg7.out)
            go_roundw
            case rel => exact hfin.out.1
            case measure => exact hfin.out.2
     · have c2:=h2.c2
       have heb : ((q : Int) == 0) = false:=by rw [bef];omega
       have hout:=lhi (fun b => show RelX V wo.heap.size w B T A n c l v ns g i i1 cl inG bs (.slice Ap bs.length kp) b wr from .inr ⟨v2,ns2,g2,i2,cl2,q,hq,h2,k2,q6⟩)
       clear h2 k2 q6 hq
       go_wp2
       go_meet
       exact hout.out _
   case rest =>
    clear hIn
    rcases hcut with ⟨v2,ns2,g2,i2,cl2,ps,he,h2,k2,p5,p6,q1,q2,r1,r2,r3,r4,r5,q6⟩ | ⟨v2,ns2,g2,i2,cl2,q,hq,h2,k2,q6⟩
    · obtain ⟨A6,k6,rfl,-,-,-,-⟩:=p6.slice
      have c2:=h2.c2
      have t2:=h2.thawed 2
      have hnl:=h2.hn
      have hle2:=h2.le
      have hpl : ps.length ≤ 1000:=by have:=hrm'.out;omega
      by_cases hps : ps = []
      · subst hps
        have hout:=lhi (relX_none (V:=V) (x:=0) h2 k2 he q6)
        clear h2 k2 p5 p6 q1 q2 r1 r2 r3 r4 r5 q6 he hnl
        go_wp2_with (fail)
        go_ret
        exact hout.out
      · have hp0 : 0 < ps.length:=List.length_pos_iff.2 hps
        have hpb : ((ps.length : Int) == 0) = false:=by rw [bef];omega
        have hTo : T < wo.heap.size:=nll hTl.out hWs
        have hrmo:=hrm'.out
        simp only [ctOf_L hps] at q6
        have hCat:=lhi (rcat_any h2 p6 hTo q2 (by omega))
        have hput:=lhi (fun z w5 hy v7 w7 ho hg => alt_put (z:=z) (w5:=w5) (v7:=v7) (w7:=w7) h2 k2 p5 q1 hps (by omega) hTl.out hy ho hg)
        have hk5:=lhi (fun z w5 (hy : RCat wc B T A n c l v2 ns2 g2 i2 cl2 ps (.returned (.int .i64 z)) w5) => show Pcs w.heap.size w5 (.slice Ap bs.length kp) bs from by
         rcases hy with ⟨x,v',ns',-,-,-,-,-,k3⟩ | ⟨x,v',ns',-,-,-,k3⟩
         · exact p5.chr h2 k3 hTl.out
         · exact p5.chr h2 k3 hTl.out)
        by_cases hz : nx l i2 = 124
        · have hbar:=lhi (fun (z : Int) (v7 : Value) (w8 : World) (v3 : Value) (ns3 : List Nod) (h8 : Rdr w8 B T A n c l v3 ns3 g2 i2 cl2 0) (k8 : ChP w w8 T v v3) (p8 : Pcs w.heap.size w8 v7 (bs ++ [z])) q8 hc a1 a2 => alt_bar (z:=z) h8 k8 p8 q8 hc a1 a2 r1 r2 r3 r4 q6 hTl.out hz hV.out)
          have hi2 : (i2 : Int) ≤ 1000000:=by omega
          have hm2:=lhi (show i1 ≤ i2 ∧ i2 < n from ⟨r5,by have:=nx_lt (l:=l) (i:=i2) (by omega);omega⟩)
          replace hz:=lhi hz
          clear h2 k2 p5 p6 q1 q2 r1 r2 r3 r4 r5 q6 he hnl hps hrmo
          go_wp2_with (first
           | (go_at_call 53;refine (hCat.out).mono ?_;intro y w5 hy;obtain ⟨z,rfl,hy⟩:=hy.ret;have hpc5:=lhi (hk5.out _ _ hy);replace hy:=lhi hy)
           | (at_builtin;refine wpList_append_at rfl _ _ 53 rfl w.heap.size 3 i0 (.int .i64 0) 1 8 Tryz.underlying53 hi0 hz0 hz1.out hz2.out rfl (by decide) (.slice Ap bs.length kp) bs.length (bs.map (Value.int .i64)) rfl (own_below hpc5.out.own (below_one w5 z)) (some ⟨w5.heap.size,0,none⟩) 1 1 [.int .i64 z] rfl rfl (src_int w5 z) (one_int z) (by unfold maxLen;omega) (by omega) (by have:=hpc5.out.base;simp;omega) ?_;intro v7 w7 hown7 hg7 _;obtain ⟨v3,ns3,hc,h7,k7,p7,q7,a1,a2⟩:=hput.out _ _ hy.out _ _ hown7 hg7;have hN7:=lhi (next_at h7 0 0 rfl (by decide));replace h7:=lhi h7;replace k7:=lhi k7;replace p7:=lhi p7;replace q7:=lhi q7;replace hc:=lhi hc;clear hown7 hg7)
           | (go_at_call 51;refine (hN7.out).mono ?_;rw [Nat.add_zero,hz.out];rintro y w8 ⟨rfl,hb8⟩;have h8:=h7.out.keep hb8;have c1:=h8.c1;have t1:=h8.thawed 1;have hfin:=lhi (hbar.out z v7 w8 v3 ns3 h8 (k7.out.trans (ChP.of_below hb8)) (p7.out.below hb8) q7.out hc.out a1 a2);clear h8 hb8))
          go_roundw
          case rel => exact hfin.out.1
          case measure => have e1:=hleft.out;have e2:=hfin.out.2;have e3:=hm2.out;omega
        · have hend:=lhi (fun (z : Int) (v7 : Value) (w8 : World) (v3 : Value) (ns3 : List Nod) (h8 : Rdr w8 B T A n c l v3 ns3 g2 i2 cl2 0) (k8 : ChP w w8 T v v3) (p8 : Pcs w.heap.size w8 v7 (bs ++ [z])) q8 hc a1 a2 => alt_end (z:=z) h8 k8 p8 q8 hc a1 a2 r1 r2 r3 r4 q6 hz he)
          have hb124 : (nx l i2 != 124) = true:=by rw [bne_iff_ne];exact hz
          clear h2 k2 p5 p6 q1 q2 r1 r2 r3 r4 r5 q6 he hnl hps hrmo hz
          go_wp2_with (first
           | (go_at_call 53;refine (hCat.out).mono ?_;intro y w5 hy;obtain ⟨z,rfl,hy⟩:=hy.ret;have hpc5:=lhi (hk5.out _ _ hy);replace hy:=lhi hy)
           | (at_builtin;refine wpList_append_at rfl _ _ 53 rfl w.heap.size 3 i0 (.int .i64 0) 1 8 Tryz.underlying53 hi0 hz0 hz1.out hz2.out rfl (by decide) (.slice Ap bs.length kp) bs.length (bs.map (Value.int .i64)) rfl (own_below hpc5.out.own (below_one w5 z)) (some ⟨w5.heap.size,0,none⟩) 1 1 [.int .i64 z] rfl rfl (src_int w5 z) (one_int z) (by unfold maxLen;omega) (by omega) (by have:=hpc5.out.base;simp;omega) ?_;intro v7 w7 hown7 hg7 _;obtain ⟨v3,ns3,hc,h7,k7,p7,q7,a1,a2⟩:=hput.out _ _ hy.out _ _ hown7 hg7;have hN7:=lhi (next_at h7 0 0 rfl (by decide));replace h7:=lhi h7;replace k7:=lhi k7;replace p7:=lhi p7;replace q7:=lhi q7;replace hc:=lhi hc;clear hown7 hg7)
           | (go_at_call 51;refine (hN7.out).mono ?_;rw [Nat.add_zero];rintro y w8 ⟨rfl,hb8⟩;have hfin:=lhi (hend.out z v7 w8 v3 ns3 (h7.out.keep hb8) (k7.out.trans (ChP.of_below hb8)) (p7.out.below hb8) q7.out hc.out a1 a2);clear hb8))
          go_meet
          exact hfin.out
    · have c2:=h2.c2
      have heb : ((q : Int) == 0) = false:=by rw [bef];omega
      have heb2 : ((q : Int) != 0) = true:=by rw [bne_iff_ne];omega
      have hout:=lhi (show EAlt V w B T A n c l v ns g i cl inG (.returned (.int .i64 0)) wc from .inr ⟨0,v2,ns2,g2,i2,cl2,q,hq,rfl,h2,k2,q6⟩)
      clear h2 k2 q6 hq
      go_wp2
      go_ret
      exact hout.out
 case rest =>
  clear hst hB'
  obtain ⟨v1,ns1,g1,i1,cl1,ns0,ps,bs,x,hz,he,hc,h1,k1,p1,q1,r1,r2,r3,r4,q6⟩:=hcut
  rename World => wt
  have hTw:=hTl.out
  have hnl:=h1.hn
  have hle1:=h1.le
  have hbl : bs.length ≤ 600:=by have:=hrm'.out;omega
  obtain ⟨A5,m,k5,rfl⟩:=p1.sl
  have hN0:=lhi (next_at h1 0 0 rfl (by decide))
  rw [Nat.add_zero] at hN0
  have c2:=h1.c2
  have hR:=lhi (fun w3 (hb : Below wt.heap.size wt w3) => h1.keep hb)
  have hT0:=lhi (fun w3 (hb : Below wt.heap.size wt w3) (hh : if inG then nx l i1 = 41 else i1 = n) => show RelT w B T A n c l v ns1 g1 i1 cl1 inG (.slice A5 m k5) (bs ++ [x]) w3 from ⟨0,v1,h1.keep hb,k1.trans (ChP.of_below hb),p1.below hb,fun _ => hh,fun e => absurd rfl e⟩)
  have hT1:=lhi (fun (hG : inG = true) (hin : n ≤ i1) w3 (hb : Below wt.heap.size wt w3) => show RelT w B T A n c l v ns1 g1 i1 cl1 inG (.slice A5 m k5) (bs ++ [x]) (w3.setCell ⟨T,2,none⟩ (.int .i64 14)) from ⟨14,v1,(h1.keep hb).erred 14 (z:=14) rfl,(k1.trans (ChP.of_below hb)).trans (ChP.store w3 T 2 (.int .i64 14) v1),(p1.below hb).chr (h1.keep hb) (ChP.store w3 T 2 (.int .i64 14) v1) hTw,fun e => absurd e (by decide),fun _ => ⟨hG,hin,rfl⟩⟩)
  have hrmo:=hrm'.out
  have hbound : ns1.length + bs.length < 1000:=by omega
  replace hc:=lhi hc
  replace q1:=lhi q1
  replace q6:=lhi q6
  have hcase : Hid ((inG = true ∧ n ≤ i1) ∨ (inG = true ∧ nx l i1 = 41) ∨ (inG = false ∧ n ≤ i1)):=lhi (by
   cases inG with
   | true => exact he.elim (fun e => .inl ⟨rfl,e⟩) (fun e => .inr (.inl ⟨rfl,e.2⟩))
   | false => exact .inr (.inr ⟨rfl,he.elim id (fun e => by cases e.1)⟩))
  replace he:=lhi he
  replace hnl:=lhi hnl
  replace hz:=lhi hz
  clear h1 k1 p1
  go_upto_region 12 with (fail)
  go_cut [88] from 76 to 87 (fun s88 wx => ∃ b : Bool,s88 = .bool b ∧ IfAt wt n l i1 inG b wx)
  case first =>
   rcases hcase.out with ⟨rfl,hin⟩ | ⟨rfl,h41⟩ | ⟨rfl,hin⟩
   · rw [nx_none (by have:=hnl.out;omega)] at hN0
     replace hin:=lhi hin
     go_wp2_with (go_at_call 51;refine (hN0.out).mono ?_;rintro y w3 ⟨rfl,hb3⟩;replace hb3:=lhi hb3)
     go_meet
     exact ⟨true,rfl,hb3.out,fun _ => ⟨rfl,hin.out⟩,fun e => (by cases e)⟩
   · rw [h41] at hN0
     replace h41:=lhi h41
     go_wp2_with (go_at_call 51;refine (hN0.out).mono ?_;rintro y w3 ⟨rfl,hb3⟩;replace hb3:=lhi hb3)
     go_meet
     exact ⟨false,rfl,hb3.out,fun e => (by cases e),fun _ => by rw [if_pos rfl];exact h41.out⟩
   · have hin1:=lhi (show i1 = n by omega)
     go_wp2_with (fail)
     go_meet
     exact ⟨false,rfl,Below.refl _ _,fun e => (by cases e),fun _ => by rw [if_neg (by decide)];exact hin1.out⟩
  case rest =>
   obtain ⟨b,rfl,hI⟩:=hcut
   replace hI:=lhi hI
   clear hN0 hcase c2
   have h3:=hR.out _ hI.out.1
   have c2:=h3.c2
   have t2:=h3.thawed 2
   clear h3
   go_upto_if 88 with (fail)
   go_cut [89] from 90 to 91 (fun _ wx => RelT w B T A n c l v ns1 g1 i1 cl1 inG (.slice A5 m k5) (bs ++ [x]) wx)
   case first =>
    cases b with
    | true =>
     go_wp2_with (fail)
     go_meet
     exact hT1.out (hI.out.2.1 rfl).1 (hI.out.2.1 rfl).2 _ hI.out.1
    | false =>
     go_wp2_with (fail)
     go_meet
     exact hT0.out _ hI.out.1 (hI.out.2.2 rfl)
   case rest =>
    clear hT0 hT1 hR hI
    obtain ⟨e,v0,h0,k0,p0,f0,f1⟩:=hcut
    obtain ⟨x0,r,hL⟩ : ∃ x0 r,bs ++ [x] = x0 :: r:=by cases bs with | nil => exact ⟨_,_,rfl⟩ | cons a b => exact ⟨_,_,rfl⟩
    have hll : r.length = bs.length:=by have:=congrArg List.length hL;simp at this;omega
    have hdone:=lhi (fun (he : e = 0) (wr : World) (v' : Value) (ns' : List Nod) (y : Int) (h' : Rdr wr B T A n c l v' ns' g1 i1 cl1 0) k' hr ok' hn' => alt_done (wr:=wr) (v':=v') (ns':=ns') (y:=y) (r:=r) h' k0 k' hL hc.out hr ok' hn' r1 r2 r3 r4 (f0 he) q6.out)
    have hopen:=lhi (fun (he : e ≠ 0) (wr : World) (v' : Value) (y : Int) (h' : Rdr wr B T A n c l v' ns1 g1 i1 cl1 e) (k' : ChP wc wr T v0 v') => show EAlt V w B T A n c l v ns g i cl inG (.returned (.int .i64 y)) wr from by
     obtain ⟨rfl,hin,rfl⟩:=f1 he
     exact alt_open (ps:=ps) (bs:=bs) (ns0:=ns0) h' k0 k' hin q6.out)
    have hok0:=q1.out
    rw [hL] at p0 hok0
    obtain ⟨hm,hmk,hk3,-,-⟩:=p0.slice'
    obtain ⟨ad,rfl,c00⟩:=p0.elem (j:=0) (by simp)
    rw [show ad.add 0 = ad by cases ad;simp [Addr.add]] at c00
    simp only [List.getElem_cons_zero] at c00
    have hm1 : m = r.length + 1:=by simpa using hm
    have hrl : r.length ≤ 600:=by omega
    have hmi : (0 : Int) < (m : Int):=by omega
    have hm6 : m ≤ 601:=by omega
    have hbd:=lhi (show ns1.length + r.length < 1000 by omega)
    have hat:=lhi (show RelJ wc B T A n c l v0 ns1 g1 i1 cl1 e x0 r (.int .i64 x0) (.int .i64 1) wc from ⟨0,by omega,rfl,by
     by_cases he : e = 0
     · subst he;exact .inl ⟨rfl,x0,v0,ns1,rfl,by rw [List.take_zero,chnF_nil],hok0 x0 (by simp),rfl,h0,ChP.of_below (Below.refl _ _)⟩
     · exact .inr ⟨he,x0,v0,rfl,h0,ChP.of_below (Below.refl _ _)⟩⟩)
    have hokr:=lhi (fun p (hp : p ∈ r) => hok0 p (by simp [hp]))
    have hpc:=lhi (fun (wr : World) (v' : Value) (k' : ChP wc wr T v0 v') => p0.chr h0 k' hTw)
    replace hm1:=lhi hm1
    clear h0 k0 p0 f0 f1 hL hll hok0 hm hc q1 q6 hz he
    go_wp2
    go_loopw [7,8] (fun kv iv wr => RelJ wc B T A n c l v0 ns1 g1 i1 cl1 e x0 r kv iv wr) (fun _ iv _ => m - (intOf iv).toNat)
    case atStart => exact hat.out
    case round =>
     clear c00 hat
     obtain ⟨j,hj,rfl,hst⟩:=hrel
     by_cases hlt : j < r.length
     · have hji : (j : Int) + 1 < (m : Int):=by have:=hm1.out;omega
       obtain ⟨q,hq⟩ : ∃ q,q = j + 1:=⟨_,rfl⟩
       have hqi : (j : Int) + 1 = (q : Int):=by omega
       rw [hqi] at hji ⊢
       have hqm : q < m:=by omega
       have hq0 : (0 : Int) ≤ (q : Int):=by omega
       have hq2 : (q : Int) ≤ 200001:=by omega
       have hqj:=lhi hq
       rcases hst with ⟨he0,y,v1,ns2,rfl,hc3,hy,hln,h1,k1⟩ | ⟨he0,y,v1,rfl,h1,k1⟩
       · obtain ⟨ad',e',hcell⟩:=(hpc.out _ _ k1).elem (j:=q) (by rw [List.length_cons];omega)
         cases e'
         have hel : (x0 :: r)[q]'(by rw [List.length_cons];omega) = r[j]'hlt:=by subst hq;rfl
         rw [hel] at hcell
         have hpo:=okP_more (hokr.out _ (List.getElem_mem hlt)) (show (ns1.length : Int) ≤ (ns2.length : Int) by omega)
         have hP:=lhi (rput_any h1 (twoN 3 y (r[j]'hlt)) (by rw [fits_two 3 (.inr rfl),hy,hpo];rfl))
         have hst:=lhi (chnF_step 3 x0 ns1 hlt)
         rw [show nodV (twoN 3 y (r[j]'hlt)) = _ from nodV_z 3 y (r[j]'hlt) 0 0 0] at hP
         have hfin:=lhi (show ∀ z w',RPut wr B T A n c l v1 ns2 g1 i1 cl1 (twoN 3 y (r[j]'hlt)) (.returned (.int .i64 z)) w' → RelJ wc B T A n c l v0 ns1 g1 i1 cl1 e x0 r (.int .i64 z) (.int .i64 ((q : Int) + 1)) w' from fun z w' hy => by
          obtain ⟨v',e1,h3,k3⟩:=hy.room (by have:=hbd.out;omega)
          injection e1 with e1
          injection e1 with _ e1
          subst e1
          have hst:=hst.out
          rw [hc3] at hst
          exact ⟨j + 1,hlt,by rw [hq],.inl ⟨he0,(ns2.length : Int),v',ns2 ++ [twoN 3 y (r[j]'hlt)],rfl,hst,by rw [lla];exact okP_last _,by rw [lla,lls];omega,h3,k1.trans k3⟩⟩)
         generalize r[j]'hlt = p at *
         clear h1 hy hc3 hpo hel hst hln k1 hq hqi he0
         go_wp2_with (go_at_call 30;refine (hP.out).mono ?_;intro x w2 hy;obtain ⟨z,rfl,hy⟩:=hy.ret;replace hy:=lhi (hfin.out _ _ hy))
         go_roundw
         case rel => exact hy.out
         case measure => have:=hqj.out;simp [intOf];omega
       · obtain ⟨ad',e',hcell⟩:=(hpc.out _ _ k1).elem (j:=q) (by rw [List.length_cons];omega)
         cases e'
         generalize (x0 :: r)[q]'(by rw [List.length_cons];omega) = p at hcell
         have hP:=lhi (rput_off h1 he0 (twoN 3 y p))
         rw [show nodV (twoN 3 y p) = _ from nodV_z 3 y p 0 0 0] at hP
         have hfin:=lhi (show ∀ w',Below wr.heap.size wr w' → RelJ wc B T A n c l v0 ns1 g1 i1 cl1 e x0 r (.int .i64 0) (.int .i64 ((q : Int) + 1)) w' from fun w' hb =>
          ⟨j + 1,hlt,by rw [hq],.inr ⟨he0,0,v1,rfl,h1.keep hb,k1.trans (ChP.of_below hb)⟩⟩)
         clear h1 k1 hq hqi he0
         go_wp2_with (go_at_call 30;refine (hP.out).mono ?_;rintro x w2 ⟨rfl,hb2⟩;have hy:=lhi (hfin.out _ hb2))
         go_roundw
         case rel => exact hy.out
         case measure => have:=hqj.out;simp [intOf];omega
     · obtain rfl : j = r.length:=by omega
       rw [List.take_length] at hst
       have hmm : (r.length : Int) + 1 = (m : Int):=by have:=hm1.out;omega
       rw [hmm]
       rcases hst with ⟨he0,y,v1,ns2,rfl,hc3,hy,hln,h1,k1⟩ | ⟨he0,y,v1,rfl,h1,k1⟩
       · have hfin:=lhi (hdone.out he0 _ _ _ _ h1 k1 hc3 hy hln)
         clear h1 hc3 hy k1 hmm he0 hln
         go_wp2
         go_ret
         exact hfin.out
       · have hfin:=lhi (hopen.out he0 _ _ y h1 k1)
         clear h1 k1 hmm he0
         go_wp2
         go_ret
         exact hfin.out
end
theorem ealt_all : ∀ k,EAltOK k:=by
 intro k
 induction k using Nat.strongRecOn with
 | ind k ih =>
  intro V inG w B T A n c l v ns g i cl h hV hrm hk
  exact ealt_any h hV hrm fun k' hk' => ih k' (by omega)
theorem ealt_top {w : World} {B T : Nat} {A : Option Addr} {n c : Nat} {l : List UInt8} {v : Value} {cl : Nat → Bool} {V : Nat → Nat} (h : Rdr w B T A n c l v [] 0 0 cl 0) (hV : Pot l V) (hV0 : V 0 < 1000) :
    Calls Tryz.prog 32 #[.pointer (some ⟨T,0,none⟩),.bool false] w (EAlt V w B T A n c l v [] 0 0 cl false):=ealt_all _ V false w B T A n c l v [] 0 0 cl h hV (by simpa using hV0) rfl
theorem EAlt.ends {w w' : World} {B T : Nat} {A : Option Addr} {n c : Nat} {l : List UInt8} {v : Value} {e : Ending} {V : Nat → Nat} (hn : n = l.length) (h : EAlt V w B T A n c l v [] 0 0 (fun _ => false) false e w') :
    (∃ x v' ns' g' i' cl',e = .returned (.int .i64 x) ∧ okP (ns'.length : Int) x = true ∧ Rdr w' B T A n c l v' ns' g' i' cl' 0 ∧ ChP w w' T v v' ∧ EndsE l ce0 (.fin ns' g')) ∨
    (∃ x v' ns' g' i' cl' q,q ≠ 0 ∧ e = .returned (.int .i64 x) ∧ Rdr w' B T A n c l v' ns' g' i' cl' q ∧ ChP w w' T v v' ∧ EndsE l ce0 (.bad i' q)):=by
 rcases h with ⟨x,v',ns',g',i',cl',ns1,ps1,bs1,he,hok,h1,k1,-,-,-,-,hend,q⟩ | ⟨x,v',ns',g',i',cl',q,hq,he,h1,k1,q6⟩
 · obtain ⟨ha,hs⟩:=q [] rfl
   refine .inl ⟨x,v',ns',g',i',cl',he,hok,h1,k1,hs.ends (.fin ?_)⟩
   show stepEL l _ = _
   simp only [stepEL]
   rw [if_pos (by simp at hend;omega),ha]
 · exact .inr ⟨x,v',ns',g',i',cl',q,hq,he,h1,k1,q6 [] rfl⟩
end Go.Proofs.YtonjnagcdnmcpaaGreatDoor
