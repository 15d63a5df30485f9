/- Contracts and plain facts: M43. -/
import Derived.Test.YtbdfhmefjfaofaaM42
import Derived.Test.YtbdfhmefjfaofaaM40
set_option linter.unusedVariables false
set_option linter.unusedSimpArgs false
set_option maxRecDepth 100000
set_option maxHeartbeats 32000000
namespace Go.Proofs.Ytbdfhmefjfaofaa
open Go.RowKit
theorem nodup_map_on {α β : Type} {f : α → β} {l : List α} (hn : l.Nodup) (hf : ∀ x ∈ l,∀ y ∈ l,f x = f y → x = y) : (l.map f).Nodup:=by
 induction l with
 | nil => exact List.nodup_nil
 | cons a r ih =>
  rw [List.map_cons,List.nodup_cons]
  rw [List.nodup_cons] at hn
  refine ⟨fun h => ?_,ih hn.2 fun x hx y hy => hf x (List.mem_cons_of_mem _ hx) y (List.mem_cons_of_mem _ hy)⟩
  obtain ⟨y,hy,e⟩:=List.mem_map.1 h
  have:=hf y (List.mem_cons_of_mem _ hy) a List.mem_cons_self e
  subst this
  exact hn.1 hy
theorem nodup_lt {l : List Nat} {N : Nat} (hn : l.Nodup) (h : ∀ x ∈ l,x < N) : l.length ≤ N:=by
 have:=nodup_few hn (k:=List.range N) fun x hx => List.mem_range.2 (h x hx)
 rwa [List.length_range] at this
def encD (o : Nat) : List Nat → Nat
 | [] => 0
 | d :: r => d + o * encD o r
theorem encD_lt {o : Nat} : ∀ {l : List Nat},(∀ d ∈ l,d < o) → encD o l < o ^ l.length
 | [],_ => by simp [encD]
 | d :: r,h => by
  have h1:=encD_lt (l:=r) fun x hx => h x (List.mem_cons_of_mem _ hx)
  have h2:=h d List.mem_cons_self
  rw [List.length_cons,Nat.pow_succ,Nat.mul_comm]
  unfold encD
  have h3 : o * (encD o r + 1) ≤ o * o ^ r.length:=Nat.mul_le_mul_left o h1
  rw [Nat.mul_add,Nat.mul_one] at h3
  omega
theorem encD_inj {o : Nat} : ∀ {l l' : List Nat},l.length = l'.length → (∀ d ∈ l,d < o) → (∀ d ∈ l',d < o) → encD o l = encD o l' → l = l'
 | [],[],_,_,_,_ => rfl
 | [],_ :: _,h,_,_,_ => by cases h
 | _ :: _,[],h,_,_,_ => by cases h
 | d :: r,d' :: r',hl,h,h',e => by
  have h1:=h d List.mem_cons_self
  have h2:=h' d' List.mem_cons_self
  have e' : d + o * encD o r = d' + o * encD o r':=e
  have m1 : (d + o * encD o r) % o = d:=by rw [Nat.add_mul_mod_self_left,Nat.mod_eq_of_lt h1]
  have m2 : (d' + o * encD o r') % o = d':=by rw [Nat.add_mul_mod_self_left,Nat.mod_eq_of_lt h2]
  have ed : d = d':=by rw [← m1,← m2,e']
  subst ed
  have e2 : o * encD o r = o * encD o r':=by omega
  have e3:=Nat.eq_of_mul_eq_mul_left (by omega) e2
  rw [encD_inj (by simpa using hl) (fun x hx => h x (List.mem_cons_of_mem _ hx)) (fun x hx => h' x (List.mem_cons_of_mem _ hx)) e3]
theorem few_code {l : List Pt} {a r o G : Nat} (dig : Int × Int → Nat) (P : Int × Int → Prop) (hinj : ∀ x y,P x → P y → dig x = dig y → x = y) (hlt : ∀ x,P x → dig x < o) (hn : l.Nodup)
    (hl : ∀ p ∈ l,(a ≤ p.i ∧ p.i ≤ a + r) ∧ ∀ k,(1 ≤ k ∧ k ≤ G → P (p.sp k)) ∧ (¬ (1 ≤ k ∧ k ≤ G) → p.sp k = (-1,-1))) : l.length ≤ (r + 1) * o ^ G:=by
 have hd : ∀ p ∈ l,∀ d ∈ (List.range G).map (fun k => dig (p.sp (k + 1))),d < o:=fun p hp d hd => by
  obtain ⟨k,hk,rfl⟩:=List.mem_map.1 hd
  rw [List.mem_range] at hk
  exact hlt _ (((hl p hp).2 (k + 1)).1 ⟨by omega,by omega⟩)
 have hlen : ∀ p : Pt,((List.range G).map (fun k => dig (p.sp (k + 1)))).length = G:=fun p => by rw [List.length_map,List.length_range]
 have hc : ∀ p ∈ l,encD o ((List.range G).map (fun k => dig (p.sp (k + 1)))) < o ^ G:=fun p hp => by
  have:=encD_lt (hd p hp)
  rwa [hlen] at this
 have hm:=nodup_map_on (f:=fun p : Pt => encD o ((List.range G).map (fun k => dig (p.sp (k + 1)))) + o ^ G * (p.i - a)) hn fun p hp q hq e => by
  have h1:=hc p hp
  have h2:=hc q hq
  have e' : encD o ((List.range G).map (fun k => dig (p.sp (k + 1)))) + o ^ G * (p.i - a) = encD o ((List.range G).map (fun k => dig (q.sp (k + 1)))) + o ^ G * (q.i - a):=e
  have m1 : (encD o ((List.range G).map (fun k => dig (p.sp (k + 1)))) + o ^ G * (p.i - a)) % o ^ G = encD o ((List.range G).map (fun k => dig (p.sp (k + 1)))):=by rw [Nat.add_mul_mod_self_left,Nat.mod_eq_of_lt h1]
  have m2 : (encD o ((List.range G).map (fun k => dig (q.sp (k + 1)))) + o ^ G * (q.i - a)) % o ^ G = encD o ((List.range G).map (fun k => dig (q.sp (k + 1)))):=by rw [Nat.add_mul_mod_self_left,Nat.mod_eq_of_lt h2]
  have ed : encD o ((List.range G).map (fun k => dig (p.sp (k + 1)))) = encD o ((List.range G).map (fun k => dig (q.sp (k + 1)))):=by rw [← m1,← m2,e']
  have e2 : o ^ G * (p.i - a) = o ^ G * (q.i - a):=by omega
  have e3:=Nat.eq_of_mul_eq_mul_left (by omega) e2
  have e4:=encD_inj (by rw [hlen,hlen]) (hd p hp) (hd q hq) ed
  have hpi:=(hl p hp).1
  have hqi:=(hl q hq).1
  have es : p.sp = q.sp:=funext fun k => by
   by_cases hk : 1 ≤ k ∧ k ≤ G
   · obtain ⟨j,rfl⟩ : ∃ j,k = j + 1:=⟨k - 1,by omega⟩
     have hj : j < G:=by omega
     have:=congrArg (fun x : List Nat => x[j]?) e4
     simp only [List.getElem?_map,List.getElem?_range hj,Option.map_some] at this
     exact hinj _ _ (((hl p hp).2 _).1 hk) (((hl q hq).2 _).1 hk) (Option.some.inj this)
   · rw [((hl p hp).2 k).2 hk,((hl q hq).2 k).2 hk]
  obtain ⟨pi,ps⟩:=p
  obtain ⟨qi,qs⟩:=q
  simp only at es hpi hqi e3
  subst es
  rw [show pi = qi by omega]
 have:=nodup_lt (N:=(r + 1) * o ^ G) hm fun x hx => by
  obtain ⟨p,hp,rfl⟩:=List.mem_map.1 hx
  have h1:=hc p hp
  have h2:=(hl p hp).1
  have h3 : o ^ G * (p.i - a) ≤ o ^ G * r:=Nat.mul_le_mul_left _ (by omega)
  rw [Nat.add_mul,Nat.one_mul,Nat.mul_comm r]
  show _ + _ < _
  omega
 rwa [List.length_map] at this
def digS (a : Nat) (x : Int × Int) : Nat:=if x.1 < 0 then 0 else 1 + (x.2 - a).toNat * ((x.2 - a).toNat + 1) / 2 + (x.1 - a).toNat
theorem tri_inj : ∀ u,u < 6 → ∀ v,v < 6 → ∀ u',u' < 6 → ∀ v',v' < 6 → v ≤ u → v' ≤ u' → u * (u + 1) / 2 + v = u' * (u' + 1) / 2 + v' → u = u' ∧ v = v':=by
 intro u hu v hv u' hu' v' hv' h1 h2 e
 have c : u = 0 ∨ u = 1 ∨ u = 2 ∨ u = 3 ∨ u = 4 ∨ u = 5:=by omega
 have c' : u' = 0 ∨ u' = 1 ∨ u' = 2 ∨ u' = 3 ∨ u' = 4 ∨ u' = 5:=by omega
 rcases c with rfl | rfl | rfl | rfl | rfl | rfl <;> rcases c' with rfl | rfl | rfl | rfl | rfl | rfl <;> omega
theorem tri_lt : ∀ r,r < 6 → ∀ u,u < 6 → ∀ v,v < 6 → u ≤ r → v ≤ u → 1 + u * (u + 1) / 2 + v < 1 + (r + 1) * (r + 2) / 2:=by decide
theorem few_small : ∀ r,r < 6 → ∀ G,G < 10 → (G ≤ 8 ∨ r ≤ 4) → (r + 1) * (1 + (r + 1) * (r + 2) / 2) ^ G ≤ 500000000000:=by decide
theorem few_pok {ns : List Nod} {t : List UInt8} {g : Int} {a : Nat} {l : List Pt} (hn : l.Nodup) (hl : ∀ q ∈ l,POK ns t g a q) (ha : a ≤ t.length) (hr : t.length ≤ a + 5) (hg : g ≤ 9) (hs : g ≤ 8 ∨ t.length ≤ a + 4) : l.length ≤ 500000000000:=by
 obtain ⟨r,hr0⟩ : ∃ r,t.length = a + r:=⟨t.length - a,by omega⟩
 have hr5 : r < 6:=by omega
 refine Nat.le_trans (few_code (a:=a) (r:=r) (o:=1 + (r + 1) * (r + 2) / 2) (G:=g.toNat) (digS a) (fun x => x = (-1,-1) ∨ ((a : Int) ≤ x.1 ∧ x.1 ≤ x.2 ∧ x.2 ≤ (a : Int) + r)) ?_ ?_ hn fun p hp => ?_) (few_small r hr5 g.toNat (by omega) (by omega))
 · rintro ⟨x1,x2⟩ ⟨y1,y2⟩ hx hy e
   unfold digS at e
   simp only at e hx hy
   rcases hx with hx | ⟨hx1,hx2,hx3⟩ <;> rcases hy with hy | ⟨hy1,hy2,hy3⟩
   · rw [hx,hy]
   · injection hx with e1 e2
     rw [if_pos (by omega),if_neg (by omega)] at e
     omega
   · injection hy with e1 e2
     rw [if_neg (by omega),if_pos (by omega)] at e
     omega
   · rw [if_neg (by omega),if_neg (by omega)] at e
     have:=tri_inj (x2 - a).toNat (by omega) (x1 - a).toNat (by omega) (y2 - a).toNat (by omega) (y1 - a).toNat (by omega) (by omega) (by omega) (by omega)
     rw [show x1 = y1 by omega,show x2 = y2 by omega]
 · rintro ⟨x1,x2⟩ hx
   unfold digS
   simp only at hx ⊢
   rcases hx with hx | ⟨hx1,hx2,hx3⟩
   · injection hx with e1 e2
     rw [if_pos (by omega)]
     omega
   · rw [if_neg (by omega)]
     exact tri_lt r hr5 (x2 - a).toNat (by omega) (x1 - a).toNat (by omega) (by omega) (by omega)
 · have h:=hl p hp
   have h1:=h.lo
   have h2:=h.hi
   refine ⟨⟨h1,by have : p.i ≤ t.length:=h2;omega⟩,fun k => ⟨fun hk => ?_,fun hk => ?_⟩⟩
   · rcases h.lies k with h | ⟨-,q1,q2,q3⟩
     · exact .inl h
     · exact .inr ⟨q1,q2,by have : p.i ≤ t.length:=h2;have q3' : (p.sp k).2 ≤ (p.i : Int):=q3;omega⟩
   · rcases h.lies k with h | ⟨⟨q0,q0'⟩,-⟩
     · exact h
     · exact absurd ⟨q0,by omega⟩ hk
theorem POK.it {ns : List Nod} {t : List UInt8} {g : Int} {a : Nat} (hr : Rt ns g) {p q : Pt} {n : Int} {k : Nat} (hp : POK ns t g a p) (hn : 0 ≤ n ∧ n < ns.length) (hk : (ndA ns n).kind = 4) (hq : It ns t n p k q) : POK ns t g a q :=
 ⟨Nat.le_trans hp.lo (Nat.le_trans (Nat.le_add_right _ _) hq.le.1),hq.le.2 hp.hi,hq.lies hr hn hk (by have:=hp.lo;show (a : Int) ≤ (p.i : Int);exact Int.ofNat_le.2 this) hp.lies,fun _ hx => nomatch hx⟩
def FewF (ns : List Nod) (t : List UInt8) (g : Int) (a : Nat) (n : Int) (p : Pt) : Prop:=(0 ≤ n ∧ n < ns.length) ∧ POK ns t g a p
theorem few_bnd {ns : List Nod} {t : List UInt8} {g : Int} {a : Nat} (hr : Rt ns g) (ha : a ≤ t.length) (h5 : t.length ≤ a + 5) (hs : g ≤ 8 ∨ t.length ≤ a + 4) : Bnd ns t (FewF ns t g a) where
 cat:=fun {n p} hk ⟨hn,hp⟩ => by
  obtain ⟨⟨ha0,ha1⟩,hb0,hb1⟩:=(hr.2.2 n hn.1 hn.2).2.1 (.inl hk)
  exact ⟨⟨⟨ha0,by omega⟩,hp⟩,fun q hq => ⟨⟨hb0,by omega⟩,hp.rel hr ha0 (by omega) hq⟩⟩
 alt:=fun {n p} hk ⟨hn,hp⟩ => by
  obtain ⟨⟨ha0,ha1⟩,hb0,hb1⟩:=(hr.2.2 n hn.1 hn.2).2.1 (.inr hk)
  exact ⟨⟨⟨ha0,by omega⟩,hp⟩,⟨hb0,by omega⟩,hp⟩
 grp:=fun {n p} hk ⟨hn,hp⟩ => by
  obtain ⟨ha0,ha1⟩:=(hr.2.2 n hn.1 hn.2).2.2.1 (.inr hk)
  exact ⟨⟨ha0,by omega⟩,hp⟩
 rep:=fun {n p} hk ⟨hn,hp⟩ k q hq hh => by
  obtain ⟨ha0,ha1⟩:=(hr.2.2 n hn.1 hn.2).2.2.1 (.inl hk)
  exact ⟨⟨ha0,by omega⟩,POK.it hr hp hn hk hq⟩
 few:=fun {n p} ⟨hn,hp⟩ l hnd hl => few_pok hnd (fun q hq => hp.rel hr hn.1 hn.2 (hl q hq)) ha h5 hr.2.1 hs
 fewI:=fun {n p} hk ⟨hn,hp⟩ k l hnd hl => few_pok hnd (fun q hq => POK.it hr hp hn hk (hl q hq)) ha h5 hr.2.1 hs
def LV (ns : List Nod) (i : Nat) : Int:=leastTo ns (i + 1) i
theorem lv_lt (ns : List Nod) : ∀ (k a : Nat),a < k → leastTo ns k a = LV ns a
 | 0,a,h => absurd h (Nat.not_lt_zero a)
 | k + 1,a,h => by
  by_cases e : a = k
  · subst e;rfl
  · have : leastTo ns (k + 1) a = leastTo ns k a:=by
      show (if a = k then _ else _) = _
      rw [if_neg e]
    rw [this]
    exact lv_lt ns k a (by omega)
theorem lv_eq {ns : List Nod} {i : Nat} (h : i < ns.length) : LV ns i = min (leastI (ndA ns (i : Int)) (leastTo ns i)) 65537:=by
 unfold LV
 rw [leastTo_next ns i h,ndA_at (by simpa using h)]
 show (if i = i then _ else _) = _
 rw [if_pos rfl]
 rfl
theorem lv_low {ns : List Nod} {g : Int} (hr : rightN ns g = true) (i : Nat) (h : i < ns.length) : 0 ≤ LV ns i ∧ LV ns i ≤ 65537:=by
 obtain ⟨⟨h1,h2,-,-⟩,hfit⟩:=rightN_all hr
 exact leastTo_low ns (fun k hk => fits_lst (hfit k hk) (by omega)) (i + 1) (by omega) i
def SLe (KN : Nat) (CN : Array Value) (w' : World) : Prop:=Held w' KN 54 CN
theorem SLe.below {KN : Nat} {CN : Array Value} {w1 w2 : World} (h : SLe KN CN w1) (hb : Below w1.heap.size w1 w2) : SLe KN CN w2:=Held.keep h hb
section
variable {ns : List Nod} {t : List UInt8} {g : Int}
theorem lv_le {n : Int} (h0 : 0 ≤ n) (h1 : n < ns.length) : LV ns n.toNat ≤ leastI (ndA ns n) (leastTo ns n.toNat):=by
 have h:=lv_eq (ns:=ns) (i:=n.toNat) (by omega)
 rw [show ((n.toNat : Nat) : Int) = n by omega] at h
 rw [h]
 exact Int.min_le_left _ _
theorem lv_part {n a : Int} (h0 : 0 ≤ a) (h1 : a < n) : leastTo ns n.toNat a.toNat = LV ns a.toNat:=lv_lt ns _ _ (by omega)
theorem lv_0 {n : Int} (h0 : 0 ≤ n) (h1 : n < ns.length) (hk : (ndA ns n).kind = 0 ∨ (ndA ns n).kind = 6 ∨ (ndA ns n).kind = 7 ∨ (ndA ns n).kind = 8) : LV ns n.toNat ≤ 0:=by
 have h:=lv_le h0 h1
 unfold leastI at h
 rwa [if_neg (by omega),if_neg (by omega),if_neg (by omega),if_neg (by omega),if_neg (by omega)] at h
theorem lv_1 {n : Int} (h0 : 0 ≤ n) (h1 : n < ns.length) (hk : (ndA ns n).kind = 1) : LV ns n.toNat ≤ 1:=by
 have h:=lv_le h0 h1
 unfold leastI at h
 rwa [if_pos hk] at h
theorem lv_2 (hr : Rt ns g) {n : Int} (h0 : 0 ≤ n) (h1 : n < ns.length) (hk : (ndA ns n).kind = 2) : LV ns n.toNat ≤ LV ns (ndA ns n).a.toNat + LV ns (ndA ns n).b.toNat:=by
 have h:=lv_le h0 h1
 obtain ⟨⟨a0,a1⟩,b0,b1⟩:=(hr.2.2 n h0 h1).2.1 (.inl hk)
 unfold leastI at h
 rwa [if_neg (by omega),if_pos hk,lv_part a0 a1,lv_part b0 b1] at h
theorem lv_3 (hr : Rt ns g) {n : Int} (h0 : 0 ≤ n) (h1 : n < ns.length) (hk : (ndA ns n).kind = 3) : LV ns n.toNat ≤ LV ns (ndA ns n).a.toNat ∧ LV ns n.toNat ≤ LV ns (ndA ns n).b.toNat:=by
 have h:=lv_le h0 h1
 obtain ⟨⟨a0,a1⟩,b0,b1⟩:=(hr.2.2 n h0 h1).2.1 (.inr hk)
 unfold leastI at h
 rw [if_neg (by omega),if_neg (by omega),if_pos hk,lv_part a0 a1,lv_part b0 b1] at h
 exact ⟨Int.le_trans h (Int.min_le_left _ _),Int.le_trans h (Int.min_le_right _ _)⟩
theorem lv_4 (hr : Rt ns g) {n : Int} (h0 : 0 ≤ n) (h1 : n < ns.length) (hk : (ndA ns n).kind = 4) : LV ns n.toNat ≤ (ndA ns n).lo * LV ns (ndA ns n).a.toNat:=by
 have h:=lv_le h0 h1
 obtain ⟨a0,a1⟩:=(hr.2.2 n h0 h1).2.2.1 (.inl hk)
 unfold leastI at h
 rwa [if_neg (by omega),if_neg (by omega),if_neg (by omega),if_pos hk,lv_part a0 a1] at h
theorem lv_5 (hr : Rt ns g) {n : Int} (h0 : 0 ≤ n) (h1 : n < ns.length) (hk : (ndA ns n).kind = 5) : LV ns n.toNat ≤ LV ns (ndA ns n).a.toNat:=by
 have h:=lv_le h0 h1
 obtain ⟨a0,a1⟩:=(hr.2.2 n h0 h1).2.2.1 (.inr hk)
 unfold leastI at h
 rwa [if_neg (by omega),if_neg (by omega),if_neg (by omega),if_neg (by omega),if_pos hk,lv_part a0 a1] at h
def LeastJ (ns : List Nod) (p q : Pt) : Job → Prop
 | .node n => 0 ≤ n → n < ns.length → (p.i : Int) + LV ns n.toNat ≤ q.i
 | .more n k => 0 ≤ n → n < ns.length → (ndA ns n).kind = 4 → (p.i : Int) + ((ndA ns n).lo - k) * LV ns (ndA ns n).a.toNat ≤ q.i
theorem rel_leastJ (hR : rightN ns g = true) {j : Job} {p q : Pt} (h : Rel ns t j p q) : LeastJ ns p q j:=by
 have hr:=right_rt hR
 have low : ∀ i : Int,0 ≤ i → i < ns.length → 0 ≤ LV ns i.toNat:=fun i i0 i1 => (lv_low hR i.toNat (by omega)).1
 induction h with
 | empty n p hk => intro h0 h1;have:=lv_0 h0 h1 (.inl hk);omega
 | set n p c hk hc hs => intro h0 h1;have:=lv_1 h0 h1 hk;show (p.i : Int) + _ ≤ ((p.i + 1 : Nat) : Int);omega
 | cat n hk _ _ i1 i2 =>
  intro h0 h1
  obtain ⟨⟨a0,a1⟩,b0,b1⟩:=(hr.2.2 n h0 h1).2.1 (.inl hk)
  have:=lv_2 hr h0 h1 hk
  have:=i1 a0 (by omega)
  have:=i2 b0 (by omega)
  omega
 | altA n hk _ i1 =>
  intro h0 h1
  obtain ⟨⟨a0,a1⟩,b0,b1⟩:=(hr.2.2 n h0 h1).2.1 (.inr hk)
  have:=(lv_3 hr h0 h1 hk).1
  have:=i1 a0 (by omega)
  omega
 | altB n hk _ i1 =>
  intro h0 h1
  obtain ⟨⟨a0,a1⟩,b0,b1⟩:=(hr.2.2 n h0 h1).2.1 (.inr hk)
  have:=(lv_3 hr h0 h1 hk).2
  have:=i1 b0 (by omega)
  omega
 | rep n hk _ i1 =>
  intro h0 h1
  have:=lv_4 hr h0 h1 hk
  have h2:=i1 h0 h1 hk
  rw [Int.sub_zero] at h2
  omega
 | @group n p q hk _ i1 =>
  intro h0 h1
  obtain ⟨a0,a1⟩:=(hr.2.2 n h0 h1).2.2.1 (.inr hk)
  have:=lv_5 hr h0 h1 hk
  have:=i1 a0 (by omega)
  show (p.i : Int) + LV ns n.toNat ≤ (q.i : Int)
  omega
 | back n p j hk hb =>
  intro h0 h1
  have:=lv_0 h0 h1 (.inr (.inl hk))
  have:=(Rel.back (ns:=ns) (t:=t) n p j hk hb).le
  have h3 : p.i ≤ j:=this.1
  show (p.i : Int) + _ ≤ (j : Int)
  omega
 | bol n p hk hp => intro h0 h1;have:=lv_0 h0 h1 (.inr (.inr (.inl hk)));omega
 | eol n p hk hp => intro h0 h1;have:=lv_0 h0 h1 (.inr (.inr (.inr hk)));omega
 | stop n k p hl =>
  intro h0 h1 hk
  obtain ⟨a0,a1⟩:=(hr.2.2 n h0 h1).2.2.1 (.inl hk)
  have h2:=low _ a0 (by omega)
  have:=Int.mul_nonneg (show 0 ≤ k - (ndA ns n).lo by omega) h2
  rw [show k - (ndA ns n).lo = -((ndA ns n).lo - k) by omega,Int.neg_mul] at this
  omega
 | same n k hh _ he hl i1 =>
  intro h0 h1 hk
  obtain ⟨a0,a1⟩:=(hr.2.2 n h0 h1).2.2.1 (.inl hk)
  have h2:=low _ a0 (by omega)
  have h3:=i1 a0 (by omega)
  have h4 : LV ns (ndA ns n).a.toNat = 0:=by omega
  rw [h4,Int.mul_zero]
  omega
 | on n k hh _ he _ i1 i2 =>
  intro h0 h1 hk
  obtain ⟨a0,a1⟩:=(hr.2.2 n h0 h1).2.2.1 (.inl hk)
  have h3:=i1 a0 (by omega)
  have h4:=i2 h0 h1 hk
  have e : ((ndA ns n).lo - k) * LV ns (ndA ns n).a.toNat = ((ndA ns n).lo - (k + 1)) * LV ns (ndA ns n).a.toNat + LV ns (ndA ns n).a.toNat:=by
   rw [show (ndA ns n).lo - k = ((ndA ns n).lo - (k + 1)) + 1 by omega,Int.add_mul,Int.one_mul]
  omega
theorem rel_least (hR : rightN ns g = true) {n : Int} (h0 : 0 ≤ n) (h1 : n < ns.length) {p q : Pt} (h : Rel ns t (.node n) p q) : (p.i : Int) + LV ns n.toNat ≤ q.i:=rel_leastJ hR h h0 h1
theorem none_beyond (hR : rightN ns g = true) {a : Nat} (hl : (t.length : Int) - LV ns (ns.length - 1) < (a : Int)) (hn : 1 ≤ ns.length) {q : Pt} (hq : q.i ≤ t.length) (h : Rel ns t (.node ((ns.length : Int) - 1)) (pt0 a) q) : False:=by
 have:=rel_least hR (by omega) (by omega) h
 rw [show ((ns.length : Int) - 1).toNat = ns.length - 1 by omega] at this
 have e : ((pt0 a).i : Int) = (a : Int):=rfl
 omega
def binN (n : Nod) : Bool:=decide (n.kind = 2 ∨ n.kind = 3)
theorem parts_sum (ns : List Nod) : (ns.flatMap partsN).length = 2 * ns.countP binN + ns.countP (fun n => decide (n.kind = 4)) + ns.countP (fun n => decide (n.kind = 5)):=by
 induction ns with
 | nil => rfl
 | cons n r ih =>
  rw [List.flatMap_cons,lla,ih,List.countP_cons,List.countP_cons,List.countP_cons]
  unfold partsN binN
  by_cases h2 : n.kind = 2 ∨ n.kind = 3
  · have h4 : ¬ n.kind = 4:=by omega
    have h5 : ¬ n.kind = 5:=by omega
    simp [h2,h4,h5];omega
  · by_cases h4 : n.kind = 4
    · simp [h4];omega
    · by_cases h5 : n.kind = 5
      · simp [h5];omega
      · simp [h2,h4,h5]
theorem count_one {l : List Int} {N : Nat} (hl : ∀ x ∈ l,0 ≤ x ∧ x < N) (hc : ∀ i : Nat,i < N → l.countP (fun x => decide (x = (i : Int))) ≤ 1) : l.length ≤ N:=by
 have hn : l.Nodup:=by
  rw [List.nodup_iff_count]
  intro x
  by_cases hx : x ∈ l
  · obtain ⟨x0,x1⟩:=hl x hx
    obtain ⟨i,rfl⟩:=Int.eq_ofNat_of_zero_le x0
    have:=hc i (by omega)
    rw [List.count_eq_countP]
    refine Nat.le_trans (Nat.le_of_eq ?_) this
    congr 1
  · rw [List.count_eq_zero_of_not_mem hx];exact Nat.zero_le _
 have h2:=nodup_lt (N:=N) (nodup_map_on (f:=Int.toNat) hn fun x hx y hy e => by have:=hl x hx;have:=hl y hy;omega) fun x hx => by
  obtain ⟨y,hy,rfl⟩:=List.mem_map.1 hx
  have:=hl y hy
  omega
 rwa [List.length_map] at h2
theorem few_parts {g : Nat} (hR : rightN ns (g : Int) = true) : (ns.flatMap partsN).length ≤ ns.length - 1:=by
 obtain ⟨⟨h1,h2,h3⟩,hf,hu,hg⟩:=right_all hR
 refine count_one (fun x hx => ?_) fun i hi => ?_
 · obtain ⟨n,hn,hx⟩:=List.mem_flatMap.1 hx
   obtain ⟨k,hk,rfl⟩:=List.getElem_of_mem hn
   have:=fits_part (hf k hk) hx
   omega
 · have:=hu i hi
   unfold usesN cntI at this
   omega
theorem nine_groups {g : Nat} (hR : rightN ns (g : Int) = true) : g ≤ ns.countP (fun n => decide (n.kind = 5)):=by
 obtain ⟨⟨h1,h2,h3⟩,hf,hu,hg⟩:=right_all hR
 have h:=nodup_few (l:=(List.range g).map fun (i : Nat) => ((i : Int) + 1)) (k:=(ns.filter fun n => decide (n.kind = 5)).map Nod.grp) (nodup_map_on List.nodup_range fun x _ y _ e => by omega) fun x hx => by
  obtain ⟨i,hi,rfl⟩:=List.mem_map.1 hx
  rw [List.mem_range] at hi
  have:=hg (i + 1) (by omega) (by omega)
  unfold grpsN cntI at this
  have hp : 0 < ((ns.filter fun n => decide (n.kind = 5)).map Nod.grp).countP (fun x => decide (x = ((i + 1 : Nat) : Int))):=by omega
  obtain ⟨y,hy,e⟩:=List.countP_pos_iff.1 hp
  rw [decide_eq_true_eq] at e
  rw [e] at hy
  have e2 : ((i + 1 : Nat) : Int) = (i : Int) + 1:=by omega
  rwa [e2] at hy
 rwa [List.length_map,List.length_range,List.length_map,← List.countP_eq_length_filter] at h
end
end Go.Proofs.Ytbdfhmefjfaofaa
