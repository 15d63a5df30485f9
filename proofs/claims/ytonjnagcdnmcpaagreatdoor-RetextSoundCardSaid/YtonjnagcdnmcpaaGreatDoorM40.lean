/- Contracts and plain facts: M40. -/
import Derived.Test.YtonjnagcdnmcpaaGreatDoorM39
import Derived.Test.YtonjnagcdnmcpaaGreatDoorM28
set_option linter.unusedVariables false
set_option linter.unusedSimpArgs false
set_option maxRecDepth 100000
set_option maxHeartbeats 32000000
namespace Go.Proofs.YtonjnagcdnmcpaaGreatDoor
open Go.RowKit
def FinK (x : Bool) (l : List UInt8) (ns : List Nod) (g : Nat) : Prop:=if x then EndX l (.fin ns g) else Ends l cf0 (.fin ns g)
def BadK (x : Bool) (l : List UInt8) (p q : Nat) : Prop:=if x then EndX l (.bad p q) else Ends l cf0 (.bad p q)
theorem FinK.det {x : Bool} {l : List UInt8} {ns ms : List Nod} {g q : Nat} (h : FinK x l ns g) (k : FinK x l ms q) : ns = ms ∧ g = q:=by
 cases x with
 | true => have h : EndX l _:=h;have k : EndX l _:=k;have:=h.det k;injection this with a b;exact ⟨a,b⟩
 | false => have h : Ends l cf0 _:=h;have k : Ends l cf0 _:=k;have:=h.det k;injection this with a b;exact ⟨a,b⟩
theorem FinK.not_bad {x : Bool} {l : List UInt8} {ns : List Nod} {g p q : Nat} (h : FinK x l ns g) (k : BadK x l p q) : False:=by
 cases x with
 | true => have h : EndX l _:=h;have k : EndX l _:=k;cases h.det k
 | false => have h : Ends l cf0 _:=h;have k : Ends l cf0 _:=k;cases h.det k
theorem BadK.det {x : Bool} {l : List UInt8} {p q p' q' : Nat} (h : BadK x l p q) (k : BadK x l p' q') : p = p' ∧ q = q':=by
 cases x with
 | true => have h : EndX l _:=h;have k : EndX l _:=k;have:=h.det k;injection this with a b;exact ⟨a,b⟩
 | false => have h : Ends l cf0 _:=h;have k : Ends l cf0 _:=k;have:=h.det k;injection this with a b;exact ⟨a,b⟩
def RoomK (x : Bool) (l : List UInt8) : Prop:=x = true → ∃ V : Nat → Nat,Pot l V ∧ V 0 < 1000
theorem room_short {x : Bool} {l : List UInt8} (h : l.length ≤ 300) : RoomK x l:=fun _ => ⟨_,pot_len l,by show 2 * (l.length - 0) < 1000;omega⟩
def PResK (x : Bool) (w : World) (l : List UInt8) (e : Ending) (w' : World) : Prop :=
 (∃ v ns g,e = .returned (.tuple #[.agg #[v,.int .i64 ((g : Nat) : Int)],.int .i64 0,.int .i64 0]) ∧ FinK x l ns g ∧ rightN ns (g : Int) = true ∧ w'.ownsRow w.heap.size 43 10 v ns.length (nodsL ns) ∧ Below w.heap.size w w') ∨
 (∃ p q : Nat,q ≠ 0 ∧ e = .returned (.tuple #[.agg #[.slice none 0 0,.int .i64 0],.int .i64 (p : Int),.int .i64 (q : Int)]) ∧ BadK x l p q ∧ Below w.heap.size w w')
theorem presk_ext {w : World} {l : List UInt8} {e : Ending} {w' : World} (h : PResE w l e w') : PResK true w l e w':=by
 rcases h with ⟨v,ns,g,h1,h2,h3,h4,h5⟩ | ⟨p,q,h0,h1,h2,h3⟩
 · exact .inl ⟨v,ns,g,h1,h2,h3,h4,h5⟩
 · exact .inr ⟨p,q,h0,h1,h2,h3⟩
theorem presk_bas {w : World} {l : List UInt8} {e : Ending} {w' : World} (h : PRes w l e w') : PResK false w l e w':=by
 rcases h with ⟨v,ns,g,h1,h2,h3,h4,h5⟩ | ⟨p,q,h0,h1,h2,h3⟩
 · exact .inl ⟨v,ns,g,h1,h2,h3,h4,h5⟩
 · exact .inr ⟨p,q,h0,h1,h2,h3⟩
section
variable {A : Option Addr} {n c : Nat} {l : List UInt8} {w : World}
theorem ere_k (h : Inp w A n c l) (hV : RoomK true l) : Calls Tryz.prog 15 #[.slice A n c] w (PResK true w l):=by
 obtain ⟨V,h1,h2⟩:=hV rfl
 exact (eparse_pot h h1 h2).mono fun _ _ h => presk_ext h
theorem bre_k (h : Inp w A n c l) : Calls Tryz.prog 16 #[.slice A n c] w (PResK false w l):=(bparse_any h).mono fun _ _ h => presk_bas h
theorem ext_k (h : Inp w A n c l) (hV : RoomK true l) : Calls Tryz.prog 17 #[.slice A n c] w (PResK true w l):=by
 obtain ⟨V,h1,h2⟩:=hV rfl
 exact (rext_pot h h1 h2).mono fun _ _ h => presk_ext h
theorem bas_k (h : Inp w A n c l) : Calls Tryz.prog 18 #[.slice A n c] w (PResK false w l):=(rbasic_any h).mono fun _ _ h => presk_bas h
theorem rxparse_any (x : Bool) (h : Inp w A n c l) (hV : RoomK x l) : Calls Tryz.prog 8 #[.slice A n c,.bool x] w (PResK x w l):=by
 have hb1:=lhi ((Below.refl w.heap.size w).alloc (nlr _) (.cells #[.slice none 0 0,.int .i64 0] 26))
 have hR:=lhi (held_new w 26 #[.slice none 0 0,.int .i64 0])
 have hI:=h.alloc (.cells #[.slice none 0 0,.int .i64 0] 26)
 cases x with
 | true =>
  have hP:=lhi (ere_k hI hV)
  clear h hV hI
  go_enter Tryz.func8,Tryz.ntmps8
  go_wp2_with (first
  | (go_at_call 15;refine (hP.out).mono ?_;intro y w1 hy;rcases hy with ⟨v1,ns,g,rfl,hfin,hr,ho,hb⟩ | ⟨p,q,hq,rfl,hbad,hb⟩
     all_goals first
      | (obtain ⟨A4,c4,rfl,-,-,-,-⟩:=own_nods ho;replace ho:=lhi ho;have hR4:=lhi (hR.out.keep hb);have z:=hR4.out.at_ (i:=0) rfl;have z1:=hR4.out.at_ (i:=1) rfl;have y0:=hR4.out.thawed 0;have y1:=hR4.out.thawed 1;have hb4:=lhi (hb1.out.trans (hb.mono hb1.out.size));replace hfin:=lhi hfin;replace hr:=lhi hr;clear hb)
      | (have hR4:=lhi (hR.out.keep hb);have z:=hR4.out.at_ (i:=0) rfl;have z1:=hR4.out.at_ (i:=1) rfl;have y0:=hR4.out.thawed 0;have y1:=hR4.out.thawed 1;have hb4:=lhi (hb1.out.trans (hb.mono hb1.out.size));replace hbad:=lhi hbad;replace hq:=lhi hq;clear hb)))
  · have hown : (w1.setCell ⟨w.heap.size,0,none⟩ (.slice A4 ns.length c4)).setCell ⟨w.heap.size,1,none⟩ (.int .i64 (g : Int)) |>.ownsRow w.heap.size 43 10 (.slice A4 ns.length c4) ns.length (nodsL ns) :=
      own_low (own_far (hR4.out.put 0 (.slice A4 ns.length c4)) (by decide) (own_far hR4.out (by decide) ho.out 0 _) 1 _) hb1.out.size
    exact bodyPost_ret (v:=.tuple #[.agg #[.slice A4 ns.length c4,.int .i64 (g : Int)],.int .i64 0,.int .i64 0]) (results_cell_three Tryz.results8 _ _ w.heap.size 26 #[.slice A4 ns.length c4,.int .i64 (g : Int)] (0,0) _ rfl rfl rfl ((hR4.out.put 0 _).put 1 _) Tryz.underlying26 rfl (by kernel_rfl)) rfl
     (.inl ⟨_,ns,g,rfl,hfin.out,hr.out,hown,(hb4.out.setCell (p:=⟨w.heap.size,0,none⟩) (nlr _) _).setCell (p:=⟨w.heap.size,1,none⟩) (nlr _) _⟩)
  · exact bodyPost_ret (v:=.tuple #[.agg #[.slice none 0 0,.int .i64 0],.int .i64 (p : Int),.int .i64 (q : Int)]) (results_cell_three Tryz.results8 _ _ w.heap.size 26 #[.slice none 0 0,.int .i64 0] (0,0) _ rfl rfl rfl ((hR4.out.put 0 _).put 1 _) Tryz.underlying26 rfl (by kernel_rfl)) rfl
      (.inr ⟨p,q,hq.out,rfl,hbad.out,(hb4.out.setCell (p:=⟨w.heap.size,0,none⟩) (nlr _) _).setCell (p:=⟨w.heap.size,1,none⟩) (nlr _) _⟩)
 | false =>
  have hP:=lhi (bre_k hI)
  clear h hV hI
  go_enter Tryz.func8,Tryz.ntmps8
  go_wp2_with (first
  | (go_at_call 16;refine (hP.out).mono ?_;intro y w1 hy;rcases hy with ⟨v1,ns,g,rfl,hfin,hr,ho,hb⟩ | ⟨p,q,hq,rfl,hbad,hb⟩
     all_goals first
      | (obtain ⟨A4,c4,rfl,-,-,-,-⟩:=own_nods ho;replace ho:=lhi ho;have hR4:=lhi (hR.out.keep hb);have z:=hR4.out.at_ (i:=0) rfl;have z1:=hR4.out.at_ (i:=1) rfl;have y0:=hR4.out.thawed 0;have y1:=hR4.out.thawed 1;have hb4:=lhi (hb1.out.trans (hb.mono hb1.out.size));replace hfin:=lhi hfin;replace hr:=lhi hr;clear hb)
      | (have hR4:=lhi (hR.out.keep hb);have z:=hR4.out.at_ (i:=0) rfl;have z1:=hR4.out.at_ (i:=1) rfl;have y0:=hR4.out.thawed 0;have y1:=hR4.out.thawed 1;have hb4:=lhi (hb1.out.trans (hb.mono hb1.out.size));replace hbad:=lhi hbad;replace hq:=lhi hq;clear hb)))
  · have hown : (w1.setCell ⟨w.heap.size,0,none⟩ (.slice A4 ns.length c4)).setCell ⟨w.heap.size,1,none⟩ (.int .i64 (g : Int)) |>.ownsRow w.heap.size 43 10 (.slice A4 ns.length c4) ns.length (nodsL ns) :=
      own_low (own_far (hR4.out.put 0 (.slice A4 ns.length c4)) (by decide) (own_far hR4.out (by decide) ho.out 0 _) 1 _) hb1.out.size
    exact bodyPost_ret (v:=.tuple #[.agg #[.slice A4 ns.length c4,.int .i64 (g : Int)],.int .i64 0,.int .i64 0]) (results_cell_three Tryz.results8 _ _ w.heap.size 26 #[.slice A4 ns.length c4,.int .i64 (g : Int)] (0,0) _ rfl rfl rfl ((hR4.out.put 0 _).put 1 _) Tryz.underlying26 rfl (by kernel_rfl)) rfl
     (.inl ⟨_,ns,g,rfl,hfin.out,hr.out,hown,(hb4.out.setCell (p:=⟨w.heap.size,0,none⟩) (nlr _) _).setCell (p:=⟨w.heap.size,1,none⟩) (nlr _) _⟩)
  · exact bodyPost_ret (v:=.tuple #[.agg #[.slice none 0 0,.int .i64 0],.int .i64 (p : Int),.int .i64 (q : Int)]) (results_cell_three Tryz.results8 _ _ w.heap.size 26 #[.slice none 0 0,.int .i64 0] (0,0) _ rfl rfl rfl ((hR4.out.put 0 _).put 1 _) Tryz.underlying26 rfl (by kernel_rfl)) rfl
      (.inr ⟨p,q,hq.out,rfl,hbad.out,(hb4.out.setCell (p:=⟨w.heap.size,0,none⟩) (nlr _) _).setCell (p:=⟨w.heap.size,1,none⟩) (nlr _) _⟩)
theorem refparse_k (x : Bool) (h : Inp w A n c l) (hV : RoomK x l) : Calls Tryz.prog 9 #[.slice A n c,.bool x] w (PResK x w l):=by
 have hb1:=lhi ((Below.refl w.heap.size w).alloc (nlr _) (.cells #[.slice none 0 0,.int .i64 0] 26))
 have hR:=lhi (held_new w 26 #[.slice none 0 0,.int .i64 0])
 have hI:=h.alloc (.cells #[.slice none 0 0,.int .i64 0] 26)
 cases x with
 | true =>
  have hP:=lhi (ext_k hI hV)
  clear h hV hI
  go_enter Tryz.func9,Tryz.ntmps9
  go_wp2_with (first
  | (go_at_call 17;refine (hP.out).mono ?_;intro y w1 hy;rcases hy with ⟨v1,ns,g,rfl,hfin,hr,ho,hb⟩ | ⟨p,q,hq,rfl,hbad,hb⟩
     all_goals first
      | (obtain ⟨A4,c4,rfl,-,-,-,-⟩:=own_nods ho;replace ho:=lhi ho;have hR4:=lhi (hR.out.keep hb);have z:=hR4.out.at_ (i:=0) rfl;have z1:=hR4.out.at_ (i:=1) rfl;have y0:=hR4.out.thawed 0;have y1:=hR4.out.thawed 1;have hb4:=lhi (hb1.out.trans (hb.mono hb1.out.size));replace hfin:=lhi hfin;replace hr:=lhi hr;clear hb)
      | (have hR4:=lhi (hR.out.keep hb);have z:=hR4.out.at_ (i:=0) rfl;have z1:=hR4.out.at_ (i:=1) rfl;have y0:=hR4.out.thawed 0;have y1:=hR4.out.thawed 1;have hb4:=lhi (hb1.out.trans (hb.mono hb1.out.size));replace hbad:=lhi hbad;replace hq:=lhi hq;clear hb)))
  · have hown : (w1.setCell ⟨w.heap.size,0,none⟩ (.slice A4 ns.length c4)).setCell ⟨w.heap.size,1,none⟩ (.int .i64 (g : Int)) |>.ownsRow w.heap.size 43 10 (.slice A4 ns.length c4) ns.length (nodsL ns) :=
      own_low (own_far (hR4.out.put 0 (.slice A4 ns.length c4)) (by decide) (own_far hR4.out (by decide) ho.out 0 _) 1 _) hb1.out.size
    exact bodyPost_ret (v:=.tuple #[.agg #[.slice A4 ns.length c4,.int .i64 (g : Int)],.int .i64 0,.int .i64 0]) (results_cell_three Tryz.results9 _ _ w.heap.size 26 #[.slice A4 ns.length c4,.int .i64 (g : Int)] (0,0) _ rfl rfl rfl ((hR4.out.put 0 _).put 1 _) Tryz.underlying26 rfl (by kernel_rfl)) rfl
     (.inl ⟨_,ns,g,rfl,hfin.out,hr.out,hown,(hb4.out.setCell (p:=⟨w.heap.size,0,none⟩) (nlr _) _).setCell (p:=⟨w.heap.size,1,none⟩) (nlr _) _⟩)
  · exact bodyPost_ret (v:=.tuple #[.agg #[.slice none 0 0,.int .i64 0],.int .i64 (p : Int),.int .i64 (q : Int)]) (results_cell_three Tryz.results9 _ _ w.heap.size 26 #[.slice none 0 0,.int .i64 0] (0,0) _ rfl rfl rfl ((hR4.out.put 0 _).put 1 _) Tryz.underlying26 rfl (by kernel_rfl)) rfl
      (.inr ⟨p,q,hq.out,rfl,hbad.out,(hb4.out.setCell (p:=⟨w.heap.size,0,none⟩) (nlr _) _).setCell (p:=⟨w.heap.size,1,none⟩) (nlr _) _⟩)
 | false =>
  have hP:=lhi (bas_k hI)
  clear h hV hI
  go_enter Tryz.func9,Tryz.ntmps9
  go_wp2_with (first
  | (go_at_call 18;refine (hP.out).mono ?_;intro y w1 hy;rcases hy with ⟨v1,ns,g,rfl,hfin,hr,ho,hb⟩ | ⟨p,q,hq,rfl,hbad,hb⟩
     all_goals first
      | (obtain ⟨A4,c4,rfl,-,-,-,-⟩:=own_nods ho;replace ho:=lhi ho;have hR4:=lhi (hR.out.keep hb);have z:=hR4.out.at_ (i:=0) rfl;have z1:=hR4.out.at_ (i:=1) rfl;have y0:=hR4.out.thawed 0;have y1:=hR4.out.thawed 1;have hb4:=lhi (hb1.out.trans (hb.mono hb1.out.size));replace hfin:=lhi hfin;replace hr:=lhi hr;clear hb)
      | (have hR4:=lhi (hR.out.keep hb);have z:=hR4.out.at_ (i:=0) rfl;have z1:=hR4.out.at_ (i:=1) rfl;have y0:=hR4.out.thawed 0;have y1:=hR4.out.thawed 1;have hb4:=lhi (hb1.out.trans (hb.mono hb1.out.size));replace hbad:=lhi hbad;replace hq:=lhi hq;clear hb)))
  · have hown : (w1.setCell ⟨w.heap.size,0,none⟩ (.slice A4 ns.length c4)).setCell ⟨w.heap.size,1,none⟩ (.int .i64 (g : Int)) |>.ownsRow w.heap.size 43 10 (.slice A4 ns.length c4) ns.length (nodsL ns) :=
      own_low (own_far (hR4.out.put 0 (.slice A4 ns.length c4)) (by decide) (own_far hR4.out (by decide) ho.out 0 _) 1 _) hb1.out.size
    exact bodyPost_ret (v:=.tuple #[.agg #[.slice A4 ns.length c4,.int .i64 (g : Int)],.int .i64 0,.int .i64 0]) (results_cell_three Tryz.results9 _ _ w.heap.size 26 #[.slice A4 ns.length c4,.int .i64 (g : Int)] (0,0) _ rfl rfl rfl ((hR4.out.put 0 _).put 1 _) Tryz.underlying26 rfl (by kernel_rfl)) rfl
     (.inl ⟨_,ns,g,rfl,hfin.out,hr.out,hown,(hb4.out.setCell (p:=⟨w.heap.size,0,none⟩) (nlr _) _).setCell (p:=⟨w.heap.size,1,none⟩) (nlr _) _⟩)
  · exact bodyPost_ret (v:=.tuple #[.agg #[.slice none 0 0,.int .i64 0],.int .i64 (p : Int),.int .i64 (q : Int)]) (results_cell_three Tryz.results9 _ _ w.heap.size 26 #[.slice none 0 0,.int .i64 0] (0,0) _ rfl rfl rfl ((hR4.out.put 0 _).put 1 _) Tryz.underlying26 rfl (by kernel_rfl)) rfl
      (.inr ⟨p,q,hq.out,rfl,hbad.out,(hb4.out.setCell (p:=⟨w.heap.size,0,none⟩) (nlr _) _).setCell (p:=⟨w.heap.size,1,none⟩) (nlr _) _⟩)
end
theorem setT_len (e : Bool) (f : Nat → Bool) : (setT e f).length ≤ 3000:=by
 rcases setT_ways e f with ⟨-,h⟩ | ⟨c,-,-,h⟩ | h
 · rw [h];simp
 · rw [h];unfold oneT;split
   · simp
   · split <;> simp
 · rw [h];exact (textR_len _ _).2
theorem short_frm (e : Bool) : ShortF (frm e):=by
 cases e with
 | true => exact ⟨setT_len true,fun lo hi h => tim_len (by decide) (by decide) h,by decide,by decide⟩
 | false => exact ⟨setT_len false,fun lo hi h => tim_len (by decide) (by decide) h,by decide,by decide⟩
def wrT (x : Bool) (ns : List Nod) : List UInt8:=tx (frm x) ns ((ns.length : Int) - 1)
theorem wrT_len {x : Bool} {ns : List Nod} {g : Int} (h : rightN ns g = true) (hl : ns.length ≤ 249) : (wrT x ns).length ≤ 1000000:=by
 obtain ⟨h1,-,-,h4⟩:=right_fo h
 have:=lens_nodes (short_frm x) ns _ h4 (ns.length - 1) (by omega)
 unfold wrT
 rw [show ((ns.length : Int) - 1) = ((ns.length - 1 : Nat) : Int) by omega]
 omega
theorem wrT_room {x : Bool} {ns : List Nod} {g : Int} (h : rightN ns g = true) (hl : ns.length ≤ 249) : RoomK x (wrT x ns):=fun hx => by
 subst hx
 have:=right_few formE tok_tim h
 exact ⟨_,pot_DE _,by show 2 * DE (wrT true ns) 0 < 1000;unfold wrT;omega⟩
def HasT (x : Bool) (ns : List Nod) (g : Int) : Prop:=rightN ns g = true ∧ ∃ ms q,FinK x (wrT x ns) ms q ∧ ((q : Nat) : Int) = g ∧ Lk ms ns
def TxRes (x : Bool) (ns : List Nod) (g : Int) (w : World) (en : Ending) (w' : World) : Prop :=
 (∃ v,en = .returned (.tuple #[v,.bool true]) ∧ HasT x ns g ∧ TextAt w' v (wrT x ns) ∧ Below w.heap.size w w') ∨
 (en = .returned (.tuple #[.slice none 0 0,.bool false]) ∧ ¬ HasT x ns g ∧ Below w.heap.size w w')
theorem signs_k (e : Bool) (w : World) : Calls Tryz.prog 20 #[.bool e] w fun en w' => ∃ o c f u y,Sg (frm e) e o c f u y ∧ en = .returned (.agg #[.string o,.string c,.string f,.string u,.string y]) ∧ Below w.heap.size w w':=by
 refine (signs_any e w).mono fun en w' ⟨h1,h2⟩ => ?_
 cases e with
 | true => exact ⟨_,_,_,_,_,sg_ext,h1,h2⟩
 | false => exact ⟨_,_,_,_,_,sg_bas,h1,h2⟩
theorem TextAt.keep {w w' : World} {v : Value} {l : List UInt8} (h : TextAt w v l) (hb : Below w.heap.size w w') : TextAt w' v l:=by
 obtain ⟨A,c,h1,h2,h3,h4⟩:=h
 exact ⟨A,c,h1,h2,h3,(h4.below hb).more hb.size⟩
structure StX (W w : World) (A : Option Addr) (n c : Nat) (g : Int) (ns : List Nod) (B : Nat) : Prop where
 re : Held w W.heap.size 26 #[.slice A n c,.int .i64 g]
 nods : Nods w B A ns
 base : B ≤ W.heap.size
 tab : Tab w
 lt : 1 < w.heap.size
 mx : Mx w
 be : Below W.heap.size W w
theorem StX.keep {W w w' : World} {A : Option Addr} {n c : Nat} {g : Int} {ns : List Nod} {B : Nat} (h : StX W w A n c g ns B) (hb : Below w.heap.size w w') : StX W w' A n c g ns B :=
 ⟨h.re.keep hb,h.nods.below (hb.mono (Nat.le_trans h.base h.be.size)),h.base,h.tab.below hb h.lt,nll h.lt hb.size,h.mx.grow hb,h.be.trans (hb.mono h.be.size)⟩
theorem StX.cells {W w : World} {A : Option Addr} {n c : Nat} {g : Int} {ns : List Nod} {B : Nat} (h : StX W w A n c g ns B) : w.cell? ⟨W.heap.size,0,none⟩ = some (.slice A n c) ∧ w.cell? ⟨W.heap.size,1,none⟩ = some (.int .i64 g) :=
 ⟨h.re.at_ (i:=0) rfl,h.re.at_ (i:=1) rfl⟩
theorem text_no (x : Bool) (A : Option Addr) (n c : Nat) (ns : List Nod) (g : Int) (B : Nat) (w : World) (hn : n = ns.length) (hnc : n ≤ c) (hm : c ≤ maxLen) (hB : B ≤ w.heap.size) (h : Nods w B A ns) (hr : rightN ns g = false) :
    Calls Tryz.prog 11 #[.agg #[.slice A n c,.int .i64 g],.bool x] w (TxRes x ns g w):=by
 have hb1:=lhi ((Below.refl w.heap.size w).alloc (nlr _) (.cells #[.slice A n c,.int .i64 g] 26))
 have hR:=right_any A n c ns g B (w.alloc (.cells #[.slice A n c,.int .i64 g] 26)) hn hnc hm (Nat.le_trans hB hb1.out.size) (h.below (hb1.out.mono hB))
 rw [hr] at hR
 replace hR:=lhi hR
 have hno:=lhi (show ¬ HasT x ns g from fun k => by rw [k.1] at hr;cases hr)
 clear hn hnc hm hB h hr
 go_enter Tryz.func11,Tryz.ntmps11
 go_wp2_with (go_at_call 19;refine (hR.out).mono ?_;rintro en w1 ⟨rfl,hb2⟩)
 go_ret2
 exact .inr ⟨rfl,hno.out,hb1.out.trans (hb2.mono hb1.out.size)⟩
theorem text_right (x : Bool) (A : Option Addr) (n c : Nat) (ns : List Nod) (g : Int) (B : Nat) (w : World) (hn : n = ns.length) (hnc : n ≤ c) (hm : c ≤ maxLen) (hB : B ≤ w.heap.size) (h : Nods w B A ns) (hr : rightN ns g = true) (hl : ns.length ≤ 249) (hT : Tab w) (hg : 1 < w.heap.size) (hx : Mx w) :
    Calls Tryz.prog 11 #[.agg #[.slice A n c,.int .i64 g],.bool x] w (TxRes x ns g w):=by
 have hb1:=(Below.refl w.heap.size w).alloc (nlr _) (.cells #[.slice A n c,.int .i64 g] 26)
 have hI:=lhi (show StX w (w.alloc (.cells #[.slice A n c,.int .i64 g] 26)) A n c g ns B from ⟨held_new _ _ _,h.below (hb1.mono hB),hB,hT.below hb1 hg,nll hg hb1.size,hx.grow hb1,hb1⟩)
 have hR:=right_any A n c ns g B (w.alloc (.cells #[.slice A n c,.int .i64 g] 26)) hn hnc hm (Nat.le_trans hB hb1.size) hI.out.nods
 rw [hr] at hR
 replace hR:=lhi hR
 obtain ⟨t,ht⟩ : ∃ t,t = wrT x ns:=⟨_,rfl⟩
 have hlen : t.length ≤ 1000000:=by rw [ht];exact wrT_len hr hl
 have hroom:=lhi (show RoomK x t by rw [ht];exact wrT_room hr hl)
 have hWr:=lhi (fun (w1 : World) (h1 : StX w w1 A n c g ns B) (o c' f u y : ByteArray) (hS : Sg (frm x) x o c' f u y) => (by
  have:=written_any hS (short_frm x) A n c ns g B w1 hn hnc hm (Nat.le_trans h1.base h1.be.size) h1.nods hr h1.tab h1.lt
  rw [show tx (frm x) ns ((ns.length : Int) - 1) = t from ht.symm] at this
  exact this : Calls Tryz.prog 21 #[.agg #[.string o,.string c',.string f,.string u,.string y],.slice A n c] w1 fun en w' => en = .returned (.string ⟨t.toArray⟩) ∧ Below w1.heap.size w1 w'))
 have hcv0:=lhi (fun w => conv_text w t hlen)
 have hPs:=lhi (fun (w1 : World) (hm : Mx w1) (A1 : Option Addr) (c1 : Nat) (h1 : t.length ≤ c1) (h2 : c1 ≤ maxLen) (h3 : Byt w1 w1.heap.size A1 t) => rxparse_any x (Inp.of hm rfl h1 h2 hlen h3) hroom.out)
 have hSm:=lhi (fun (w1 : World) (h1 : StX w w1 A n c g ns B) (A1 : Option Addr) (c1 : Nat) (q : Nat) (ms : List Nod) (hc1 : ms.length ≤ c1) (hcm : c1 ≤ maxLen) (h2 : Nods w1 w1.heap.size A1 ms) => treeSame_any A1 A ms.length c1 n c (q : Int) g ms ns w1.heap.size w1 rfl hn hc1 hnc hcm (nlr _) h2 (h1.nods.more (Nat.le_trans h1.base h1.be.size)))
 have hyes:=lhi (fun (ms : List Nod) (q : Nat) (hf : FinK x t ms q) (hb : (decide ((q : Int) = g) && sameNs ms ns) = true) => show HasT x ns g by
  rw [Bool.and_eq_true,decide_eq_true_eq,sameNs_iff] at hb
  exact ⟨hr,ms,q,ht ▸ hf,hb.1,hb.2⟩)
 have hnot:=lhi (fun (ms : List Nod) (q : Nat) (hf : FinK x t ms q) (hb : (decide ((q : Int) = g) && sameNs ms ns) = false) => show ¬ HasT x ns g from fun ⟨_,ms',q',h1,h2,h3⟩ => by
  rw [← ht] at h1
  obtain ⟨rfl,rfl⟩:=hf.det h1
  rw [decide_eq_true h2,(sameNs_iff _ _).2 h3] at hb
  cases hb)
 have hbad:=lhi (fun (p q : Nat) (hf : BadK x t p q) => show ¬ HasT x ns g from fun ⟨_,ms',q',h1,h2,h3⟩ => by
  rw [← ht] at h1
  exact h1.not_bad hf)
 have htx:=lhi ht
 clear hn hm hB h hr hT hg hx hb1 hl ht hlen hroom
 obtain ⟨i0,i1⟩:=hI.out.cells
 have hSg:=lhi (signs_k x)
 go_enter Tryz.func11,Tryz.ntmps11
 go_wp2_with (go_at_call 19;refine (hR.out).mono ?_;rintro en w1 ⟨rfl,hb2⟩;have h1:=lhi (hI.out.keep hb2);obtain ⟨j0,j1⟩:=h1.out.cells;clear hb2)
 go_region_with (first
  | (go_at_call 20;refine (hSg.out _).mono ?_;rintro en w2 ⟨o,c',f,u,y,hS,rfl,hb2⟩;replace hb2 : Below w1.heap.size w1 w2:=(Below.refl _ w1).drew.trans hb2;have h2:=lhi (h1.out.keep hb2);obtain ⟨k0,k1⟩:=h2.out.cells;replace hS:=lhi hS;clear hb2)
  | (go_at_call 21;refine (hWr.out _ h2.out o c' f u y hS.out).mono ?_;rintro en w3 ⟨rfl,hb3⟩;have h3:=lhi (h2.out.keep hb3);obtain ⟨l0,l1⟩:=h3.out.cells;obtain ⟨v,w4,hcv,hta,hb4⟩:=hcv0.out w3;have h4:=lhi (h3.out.keep hb4);obtain ⟨m0,m1⟩:=h4.out.cells;obtain ⟨A4,c4,rfl,hc4,hcm4,hby4⟩:=id hta;replace hta:=lhi hta;replace hc4:=lhi hc4;replace hcm4:=lhi hcm4;replace hby4:=lhi hby4;clear hb3 hb4))
 all_goals
  clear hcv
  go_wp2_with (first
   | (go_at_call 8;refine (hPs.out _ h4.out.mx _ c4 hc4.out hcm4.out hby4.out).mono ?_;intro en0 w5 hy;rcases hy with ⟨v5,ms,q,rfl,hfin,hrm,ho,hb5⟩ | ⟨p,q,hq,rfl,hbd,hb5⟩
      all_goals first
       | (obtain ⟨A5,c5,rfl,-,hc5,hcm5,hN5⟩:=own_nods ho;have h5:=h4.out.keep hb5;have hal:=(Below.refl w5.heap.size w5).alloc (nlr _) (.cells #[.slice A5 ms.length c5,.int .i64 (q : Int)] 26);have h6:=lhi (h5.keep hal);obtain ⟨z0,z1⟩:=h6.out.cells;have hta6:=lhi ((hta.out.keep hb5).keep hal);have hN6:=lhi ((hN5.below hal).more hal.size);replace hfin:=lhi hfin;replace hc5:=lhi hc5;replace hcm5:=lhi hcm5;clear hb5 h5 hal hN5 ho hrm)
       | (have h5:=h4.out.keep hb5;have hal:=(Below.refl w5.heap.size w5).alloc (nlr _) (.cells #[.slice none 0 0,.int .i64 0] 26);have h6:=lhi (h5.keep hal);have hd : ((q : Int) != 0) = true:=by rw [bne_iff_ne];omega
          replace hbd:=lhi hbd;clear hb5 h5 hal hq))
   | (go_at_call 22;refine (hSm.out _ h6.out A5 c5 q ms hc5.out hcm5.out hN6.out).mono ?_;rintro en w7 ⟨rfl,hb7⟩;have h7:=lhi (h6.out.keep hb7);have hta7:=lhi (hta6.out.keep hb7);clear hb7;generalize hbq : (decide ((q : Int) = g) && sameNs ms ns) = b;replace hbq:=lhi hbq;cases b))
  · go_ret2
    exact .inr ⟨rfl,hnot.out ms q hfin.out hbq.out,h7.out.be⟩
  · go_ret2
    exact .inl ⟨_,rfl,hyes.out ms q hfin.out hbq.out,htx.out ▸ hta7.out,h7.out.be⟩
  · go_ret2
    exact .inr ⟨rfl,hbad.out p q hbd.out,h6.out.be⟩
theorem rtext_any (x : Bool) (A : Option Addr) (n c : Nat) (ns : List Nod) (g : Int) (B : Nat) (w : World) (hn : n = ns.length) (hnc : n ≤ c) (hm : c ≤ maxLen) (hB : B ≤ w.heap.size) (h : Nods w B A ns) (hl : ns.length ≤ 249) (hT : Tab w) (hg : 1 < w.heap.size) (hx : Mx w) :
    Calls Tryz.prog 11 #[.agg #[.slice A n c,.int .i64 g],.bool x] w (TxRes x ns g w):=by
 cases hr : rightN ns g with
 | true => exact text_right x A n c ns g B w hn hnc hm hB h hr hl hT hg hx
 | false => exact text_no x A n c ns g B w hn hnc hm hB h hr
theorem FinK.hasT {x : Bool} {l : List UInt8} {ns : List Nod} {g : Nat} (h : FinK x l ns g) (hr : rightN ns (g : Int) = true) : HasT x ns (g : Int):=by
 cases x with
 | true =>
  obtain ⟨ms,h1,h2⟩:=ext_back formE (show EndX l _ from h)
  exact ⟨hr,ms,g,h2,rfl,Eq.symm h1⟩
 | false =>
  obtain ⟨ms,h1,h2⟩:=bas_back formB (show Ends l cf0 _ from h)
  exact ⟨hr,ms,g,h2,rfl,Eq.symm h1⟩
theorem bas_right {l : List UInt8} {ns : List Nod} {g : Nat} (h : Ends l cf0 (.fin ns g)) : rightN ns (g : Int) = true:=by
 obtain ⟨c,hs,hst,-⟩:=h
 have hinv:=hs.inv inv0
 obtain ⟨e1,e2,e3,⟨x,e4⟩,e5⟩:=step_fin hst
 obtain ⟨ct,i,ns1,g1,cl,ps,lv⟩:=c
 simp only at e1 e2 e3 e4 e5
 subst e1 e3 e5
 exact (hinv.right e4).1
structure StI (R : Nat) (w : World) (A : Option Addr) (n c : Nat) (g : Int) (ns : List Nod) (B : Nat) : Prop where
 re : Held w R 26 #[.slice A n c,.int .i64 g]
 nods : Nods w B A ns
 base : B ≤ w.heap.size
theorem StI.keep {R : Nat} {w w' : World} {A : Option Addr} {n c : Nat} {g : Int} {ns : List Nod} {B : Nat} (h : StI R w A n c g ns B) (hb : Below w.heap.size w w') : StI R w' A n c g ns B :=
 ⟨h.re.keep hb,h.nods.below (hb.mono h.base),Nat.le_trans h.base hb.size⟩
theorem StI.cells {R : Nat} {w : World} {A : Option Addr} {n c : Nat} {g : Int} {ns : List Nod} {B : Nat} (h : StI R w A n c g ns B) : w.cell? ⟨R,0,none⟩ = some (.slice A n c) ∧ w.cell? ⟨R,1,none⟩ = some (.int .i64 g) :=
 ⟨h.re.at_ (i:=0) rfl,h.re.at_ (i:=1) rfl⟩
theorem is_yes (x : Bool) {A : Option Addr} {n c : Nat} {l : List UInt8} {w : World} (h : Inp w A n c l) (hV : RoomK x l) {ms : List Nod} {q : Nat} (hf : FinK x l ms q) (A2 : Option Addr) (n2 c2 : Nat) (ns : List Nod) (g : Int) (B : Nat) (hn2 : n2 = ns.length) (hnc2 : n2 ≤ c2) (hm2 : c2 ≤ maxLen) (hB : B ≤ w.heap.size) (h2 : Nods w B A2 ns) (hq : (q : Int) = g) (hs : ms.map nodL = ns.map nodL) :
    Calls Tryz.prog 12 #[.slice A n c,.bool x,.agg #[.slice A2 n2 c2,.int .i64 g]] w fun en w' => en = .returned (.bool true) ∧ Below w.heap.size w w':=by
 have hb1:=(Below.refl w.heap.size w).alloc (nlr _) (.cells #[.slice A2 n2 c2,.int .i64 g] 26)
 have hI:=lhi (show StI w.heap.size (w.alloc (.cells #[.slice A2 n2 c2,.int .i64 g] 26)) A2 n2 c2 g ns B from ⟨held_new _ _ _,h2.below (hb1.mono hB),Nat.le_trans hB hb1.size⟩)
 have hP:=lhi (refparse_k x (h.alloc (.cells #[.slice A2 n2 c2,.int .i64 g] 26)) hV)
 have hSm:=lhi (fun (w1 : World) (h1 : StI w.heap.size w1 A2 n2 c2 g ns B) (A1 : Option Addr) (c1 : Nat) (hc1 : ms.length ≤ c1) (hcm : c1 ≤ maxLen) (k2 : Nods w1 w1.heap.size A1 ms) => (by
  have:=refSame_any A1 A2 ms.length c1 n2 c2 (q : Int) g ms ns w1.heap.size w1 rfl hn2 hc1 hnc2 hcm (nlr _) k2 (h1.nods.more h1.base)
  rw [decide_eq_true hq,(sameNs_iff _ _).2 hs] at this
  exact this : Calls Tryz.prog 10 #[.agg #[.slice A1 ms.length c1,.int .i64 (q : Int)],.agg #[.slice A2 n2 c2,.int .i64 g]] w1 fun e w' => e = .returned (.bool true) ∧ Below w1.heap.size w1 w'))
 have hdet:=lhi (fun (ms' : List Nod) (q' : Nat) (h : FinK x l ms' q') => hf.det h)
 have hnb:=lhi (fun (p' q' : Nat) (h : BadK x l p' q') => hf.not_bad h)
 replace hb1:=lhi hb1
 obtain ⟨i0,i1⟩:=hI.out.cells
 clear h hV hf hn2 hnc2 hm2 hB h2 hq hs
 go_enter Tryz.func12,Tryz.ntmps12
 go_wp2_with (first
  | (go_at_call 9;refine (hP.out).mono ?_;intro en0 w5 hy;rcases hy with ⟨v5,ms',q',rfl,hfin,hrm,ho,hb5⟩ | ⟨p',q',hq,rfl,hbd,hb5⟩
     all_goals first
      | (exact absurd hbd (hnb.out _ _))
      | (obtain ⟨rfl,rfl⟩:=hdet.out _ _ hfin;obtain ⟨A5,c5,rfl,-,hc5,hcm5,hN5⟩:=own_nods ho;have hal:=(Below.refl w5.heap.size w5).alloc (nlr _) (.cells #[.slice A5 ms.length c5,.int .i64 (q : Int)] 26);have h6:=lhi ((hI.out.keep hb5).keep hal);obtain ⟨z0,z1⟩:=h6.out.cells;have hN6:=lhi ((hN5.below hal).more hal.size);have hb6:=lhi ((hb1.out.trans (hb5.mono hb1.out.size)).trans (hal.mono (hb1.out.trans (hb5.mono hb1.out.size)).size));replace hc5:=lhi hc5;replace hcm5:=lhi hcm5;clear hb5 hal hN5 ho hrm hfin))
  | (go_at_call 10;refine (hSm.out _ h6.out A5 c5 hc5.out hcm5.out hN6.out).mono ?_;rintro en w7 ⟨rfl,hb7⟩))
 go_ret
 exact ⟨rfl,hb6.out.trans (hb7.mono hb6.out.size)⟩
theorem is_text (x : Bool) {w : World} {v : Value} {ns : List Nod} {g : Int} (hT : HasT x ns g) (hv : TextAt w v (wrT x ns)) (hl : ns.length ≤ 249) (hm : Mx w) (A2 : Option Addr) (n2 c2 B : Nat) (hn2 : n2 = ns.length) (hnc2 : n2 ≤ c2) (hm2 : c2 ≤ maxLen) (hB : B ≤ w.heap.size) (h2 : Nods w B A2 ns) :
    Calls Tryz.prog 12 #[v,.bool x,.agg #[.slice A2 n2 c2,.int .i64 g]] w fun en w' => en = .returned (.bool true) ∧ Below w.heap.size w w':=by
 obtain ⟨hr,ms,q,h3,h4,h5⟩:=hT
 obtain ⟨A,c,rfl,hc,hcm,hb⟩:=hv
 exact is_yes x (Inp.of hm rfl hc hcm (wrT_len hr hl) hb) (wrT_room hr hl) h3 A2 n2 c2 ns g B hn2 hnc2 hm2 hB h2 h4 h5
theorem nods_one {w : World} {g : Nat} {cs : Array Value} (nd : Nod) (h : Held w g 43 cs) (hc : cs = nodC nd) : Nods w (g + 1) (some ⟨g,0,none⟩) [nd]:=fun k hk => by
 obtain rfl : k = 0:=by simpa using hk
 refine ⟨_,rfl,Nat.lt_succ_self _,fun j u hj => ?_⟩
 rw [add_zero_off,Nat.zero_mul,Nat.zero_add]
 refine h.at_ ?_
 rw [hc]
 simpa [nodC] using hj
theorem star_fin : FinK false [92,42] [setN (ofL [42])] 0:=(show Ends [92,42] cf0 _ from ends_fin (k:=8) (by rfl))
theorem star_has : HasT false [setN (ofL [42])] ((0 : Nat) : Int):=star_fin.hasT (bas_right (show Ends [92,42] cf0 _ from star_fin))
def AltR (w : World) (e : Ending) (w' : World) : Prop:=∃ A c,e = .returned (.tuple #[.agg #[.slice A 3 c,.int .i64 0],.int .i64 0,.int .i64 0]) ∧ Below w.heap.size w w'
theorem alt_call (w : World) (hm : Mx w) : Calls Tryz.prog 8 #[.slice (some ⟨w.heap.size,0,none⟩) 3 3,.bool true] (w.alloc (.cells #[.int .u8 97,.int .u8 124,.int .u8 98] 5 (3,4))) (AltR w):=by
 have hb:=(Below.refl w.heap.size w).alloc (nlr _) (.cells #[.int .u8 97,.int .u8 124,.int .u8 98] 5 (3,4))
 refine (rxparse_any true (const_inp hm [97,124,98] 3 rfl (by decide) (3,4)) (room_short (by decide))).mono fun e w' h => ?_
 rcases h with ⟨v,ns,g,rfl,h1,h2,h3,h4⟩ | ⟨p,q,h0,h1,h2,h3⟩
 · obtain ⟨rfl,rfl⟩:=h1.det (show FinK true _ _ _ from ew1)
   obtain ⟨A,c,rfl,-,-,-,-⟩:=own_nods h3
   exact ⟨A,c,rfl,hb.trans (h4.mono hb.size)⟩
 · exact absurd h2 ((show FinK true _ _ _ from ew1).not_bad)
structure StA (W w : World) (R : Nat) (b : Nat) (ns : List Nod) : Prop where
 re : StI R w (some ⟨b,0,none⟩) 1 1 0 ns (b + 1)
 tab : Tab w
 lt : 1 < w.heap.size
 mx : Mx w
 be : Below W.heap.size W w
theorem StA.keep {W w w' : World} {R b : Nat} {ns : List Nod} (h : StA W w R b ns) (hb : Below w.heap.size w w') : StA W w' R b ns :=
 ⟨h.re.keep hb,h.tab.below hb h.lt,nll h.lt hb.size,h.mx.grow hb,h.be.trans (hb.mono h.be.size)⟩
theorem StA.text {W w : World} {R b : Nat} {ns : List Nod} (h : StA W w R b ns) (hl : ns.length = 1) (hT : HasT false ns 0) : Calls Tryz.prog 11 #[.agg #[.slice (some ⟨b,0,none⟩) 1 1,.int .i64 0],.bool false] w fun e w' => ∃ A c,e = .returned (.tuple #[.slice (some A) (wrT false ns).length c,.bool true]) ∧ TextAt w' (.slice (some A) (wrT false ns).length c) (wrT false ns) ∧ StA W w' R b ns:=by
 refine (rtext_any false (some ⟨b,0,none⟩) 1 1 ns 0 (b + 1) w hl.symm (nlr _) (by decide) h.re.base h.re.nods (by omega) h.tab h.lt h.mx).mono fun e w' hy => ?_
 rcases hy with ⟨v,rfl,-,h2,h3⟩ | ⟨-,h2,-⟩
 · obtain ⟨A,c,rfl,k1,k2,k3⟩:=h2
   exact ⟨A,c,rfl,⟨A,c,rfl,k1,k2,k3⟩,h.keep h3⟩
 · exact absurd hT h2
theorem awake_rx (w : World) (hT : Tab w) (hg : 1 < w.heap.size) (hm : Mx w) : Calls Tryz.prog 7 #[] w fun e w' => e = .returned (.bool true) ∧ Below w.heap.size w w':=by
 obtain ⟨s0,s1,s2,s3,hs⟩ : ∃ s0 s1 s2 s3 : Nat,setC (ofL [42]) = #[.int .u64 (s0 : Int),.int .u64 (s1 : Int),.int .u64 (s2 : Int),.int .u64 (s3 : Int)]:=⟨_,_,_,_,rfl⟩
 have hO:=fun w1 => refOne_any 42 w1
 rw [← ofL_one 42,hs] at hO
 have hnd:=lhi (show #[.int .i64 1,.int .i64 0,.int .i64 0,.int .i64 0,.int .i64 0,.int .i64 0,.int .u64 (s0 : Int),.int .u64 (s1 : Int),.int .u64 (s2 : Int),.int .u64 (s3 : Int)] = nodC (setN (ofL [42])) by
  unfold setC at hs
  simp only [Array.mk.injEq,List.cons.injEq,Value.int.injEq,and_true,true_and] at hs
  obtain ⟨h0,h1,h2,h3⟩:=hs
  show _ = (nodL (setN (ofL [42]))).toArray
  unfold nodL setN
  simp only
  rw [h0,h1,h2,h3])
 obtain ⟨ns,hns⟩ : ∃ ns,ns = [setN (ofL [42])]:=⟨_,rfl⟩
 have hN:=lhi (fun (w1 : World) (hb : Below w.heap.size w w1) => (show StA w ((w1.alloc (.cells #[.int .i64 1,.int .i64 0,.int .i64 0,.int .i64 0,.int .i64 0,.int .i64 0,.int .u64 (s0 : Int),.int .u64 (s1 : Int),.int .u64 (s2 : Int),.int .u64 (s3 : Int)] 43)).alloc (.cells #[.slice (some ⟨w1.heap.size,0,none⟩) 1 1,.int .i64 0] 26)) (w1.heap.size + 1) w1.heap.size ns from by
  have hb2:=(hb.alloc hb.size (.cells #[.int .i64 1,.int .i64 0,.int .i64 0,.int .i64 0,.int .i64 0,.int .i64 0,.int .u64 (s0 : Int),.int .u64 (s1 : Int),.int .u64 (s2 : Int),.int .u64 (s3 : Int)] 43)).alloc (by have:=hb.size;simp;omega) (.cells #[.slice (some ⟨w1.heap.size,0,none⟩) 1 1,.int .i64 0] 26)
  refine ⟨⟨held_new2 _ _ _ _,?_,by simp⟩,hT.below hb2 hg,nll hg hb2.size,hm.grow hb2,hb2⟩
  rw [hns]
  exact nods_one _ ((held_new w1 _ _).alloc _) hnd.out))
 have hl : Hid (ns.length = 1):=lhi (by rw [hns];rfl)
 have hH : Hid (HasT false ns 0):=lhi (by rw [hns];exact star_has)
 replace hO:=lhi hO
 have kc:=fun (w : World) (C : Array Value) (n c : Nat) => Lib.run_convert_bytes_const (P:=Tryz.prog) w 22 5 C n c Tryz.underlying22 Tryz.underlying5
 have hIs:=lhi (fun (w1 : World) (R b : Nat) (A : Addr) (c : Nat) (h : StA w w1 R b ns) (h2 : TextAt w1 (.slice (some A) (wrT false ns).length c) (wrT false ns)) => is_text false hH.out h2 (by rw [hl.out];decide) h.mx (some ⟨b,0,none⟩) 1 1 (b + 1) hl.out.symm (nlr _) (by decide) h.re.base h.re.nods)
 clear hs hT hg hm hns hnd
 go_enter Tryz.func7,Tryz.ntmps7
 go_wp2_with (first
  | (go_at_call 14;refine (hO.out _).mono ?_;rintro e w1 ⟨rfl,hb1⟩;have hA:=lhi (hN.out w1 hb1);obtain ⟨z0,z1⟩:=hA.out.re.cells;clear hb1)
  | (go_at_call 11;refine (hA.out.text hl.out hH.out).mono ?_;rintro e w2 ⟨A2,c2,rfl,htx,h2⟩;obtain ⟨y0,y1⟩:=h2.re.cells;replace h2:=lhi h2;replace htx:=lhi htx;clear hA)
  | (go_at_call 8;refine (alt_call _ h2.out.mx).mono ?_;rintro e w3 ⟨A3,c3,rfl,hb3⟩;have hal:=(Below.refl w3.heap.size w3).alloc (nlr _) (.cells #[.slice A3 3 c3,.int .i64 0] 26);have h3:=lhi ((h2.out.keep hb3).keep hal);obtain ⟨x0,x1⟩:=h3.out.re.cells;have htx3:=lhi ((htx.out.keep hb3).keep hal);have hR3:=lhi (held_new w3 26 #[.slice A3 3 c3,.int .i64 0]);clear hb3 hal)
  | (go_at_call 12;refine (hIs.out _ _ _ A2 c2 h3.out htx3.out).mono ?_;rintro e w4 ⟨rfl,hb4⟩;have v0:=(hR3.out.keep hb4).at_ (i:=0) (v:=.slice A3 3 c3) rfl;have hbe:=lhi (h3.out.be.trans (hb4.mono h3.out.be.size));clear hb4))
 go_ret
 exact ⟨rfl,hbe.out⟩
structure StR (W w : World) (G1 G2 G : Nat) (nd : Nod) (rv r1 r2 : Array Value) : Prop where
 re : Held w W.heap.size 26 rv
 a : Held w G1 3 r1
 b : Held w G2 3 r2
 nd : Held w G 43 (nodC nd)
 low : Below W.heap.size W w
 h12 : G1 ≠ G2
 h1 : W.heap.size ≤ G1
 h2 : W.heap.size ≤ G2
section
variable {W w w' : World} {G1 G2 G : Nat} {nd : Nod} {rv r1 r2 : Array Value} {n : Nat} {P : List Int} {q : Nat}
theorem StR.below (h : StR W w G1 G2 G nd rv r1 r2) (hb : Below w.heap.size w w') : StR W w' G1 G2 G nd rv r1 r2 :=
 ⟨h.re.keep hb,h.a.keep hb,h.b.keep hb,h.nd.keep hb,h.low.trans (hb.mono h.low.size),h.h12,h.h1,h.h2⟩
end
def RelR2 (W : World) (G1 G2 : Nat) (ns : List Nod) (n : Nat) (rv : Array Value) (i : Value) (wr : World) : Prop :=
 ∃ k : Nat,k ≤ n ∧ i = .int .i64 (k : Nat) ∧ Held wr W.heap.size 26 rv ∧ Held wr G1 3 (rowC n (cntI ((ns.take k).flatMap partsN))) ∧ Held wr G2 3 (rowC 10 (grpsN (ns.take k))) ∧ Below W.heap.size W wr
theorem RelR2.mk {W : World} {G1 G2 : Nat} {ns : List Nod} {n : Nat} {rv : Array Value} {i : Value} {wr : World} (h : ∃ k : Nat,k ≤ n ∧ i = .int .i64 (k : Nat) ∧ Held wr W.heap.size 26 rv ∧ Held wr G1 3 (rowC n (cntI ((ns.take k).flatMap partsN))) ∧ Held wr G2 3 (rowC 10 (grpsN (ns.take k))) ∧ Below W.heap.size W wr) : RelR2 W G1 G2 ns n rv i wr:=h
end Go.Proofs.YtonjnagcdnmcpaaGreatDoor
