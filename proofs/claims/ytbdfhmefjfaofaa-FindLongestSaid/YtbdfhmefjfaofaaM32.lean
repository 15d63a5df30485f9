/- Contracts and plain facts: M32. -/
import Derived.Test.YtbdfhmefjfaofaaM31
import Derived.Deep.Cut
set_option linter.unusedVariables false
set_option linter.unusedSimpArgs false
set_option maxRecDepth 100000
set_option maxHeartbeats 32000000
namespace Go.Proofs.Ytbdfhmefjfaofaa
open Go.RowKit
def fsC (An : Option Addr) (nn cn : Nat) (g : Int) (At : Option Addr) (nt ct : Nat) (left : Int) (short : Bool) : Array Value:=#[.slice An nn cn,.int .i64 g,.slice At nt ct,.int .i64 left,.bool short]
structure Srf (w : World) (B S : Nat) (An : Option Addr) (nn cn : Nat) (At : Option Addr) (nt ct : Nat) (ns : List Nod) (t : List UInt8) (g left : Int) (short : Bool) : Prop where
 held : Held w S 74 (fsC An nn cn g At nt ct left short)
 inn : AtIn w B An nn cn At nt ct ns t
 base : B ≤ S
section
variable {w w' : World} {B S : Nat} {An : Option Addr} {nn cn : Nat} {At : Option Addr} {nt ct : Nat} {ns : List Nod} {t : List UInt8} {g left : Int} {short : Bool}
theorem Srf.keep (h : Srf w B S An nn cn At nt ct ns t g left short) (hb : Below w.heap.size w w') : Srf w' B S An nn cn At nt ct ns t g left short:=⟨h.held.keep hb,h.inn.below (hb.mono h.inn.base),h.base⟩
theorem Srf.turned {left' : Int} {short' : Bool} (h : Srf w B S An nn cn At nt ct ns t g left short) (hg : w.grownBy w' (some S)) (hh : Held w' S 74 (fsC An nn cn g At nt ct left' short')) : Srf w' B S An nn cn At nt ct ns t g left' short' :=
 ⟨hh,h.inn.below ((Below.refl B w).grown hg h.inn.base (fun k e => by cases e;exact h.base)),h.base⟩
inductive TryP (ns : List Nod) (t : List UInt8) (g : Int) (a : Nat) (M : Int) : Spn → Bool → Int → Bool → Prop
 | bad (hx : Told11 ns t ((ns.length : Int) - 1) a M none) : TryP ns t g a M sp00 false 0 true
 | fine {b : Option Spn} {left : Int} (hl : 0 ≤ left) (hx : Told11 ns t ((ns.length : Int) - 1) a M (some (b,left))) : TryP ns t g a M (ansS b) b.isSome left false
theorem try_of {a : Nat} {M : Int} {e : Ending} (hok : rightN ns g = true ∧ (0 ≤ (a : Int) ∧ (a : Int) ≤ t.length) ∧ 0 ≤ M) (h : AtP ns g t (a : Int) M e) : ∃ (s : Spn) (b : Bool) (left en : Int) (sh : Bool),e = .returned (.tuple #[.agg (hitC s),.bool b,.int .i64 left,.int .i64 en]) ∧ (en != 0) = sh ∧ TryP ns t g a M s b left sh:=by
 cases h with
 | arg h => exact absurd hok h
 | fuel h hx => exact ⟨_,_,_,_,true,rfl,rfl,.bad hx⟩
 | fine h hx => exact ⟨_,_,_,_,false,rfl,rfl,.fine (by omega) hx⟩
theorem grown_new {w w5 w6 : World} {F K : Nat} (hK : w.heap.size ≤ K) (h5 : w.grownBy w5 (some F)) (h6 : w5.grownBy w6 (some K)) : w.grownBy w6 (some F):=⟨h6.os.trans h5.os,h6.tape.trans h5.tape,h6.output.trans h5.output,Nat.le_trans h5.size h6.size,fun k hk hne => (h6.block k (nll hk h5.size) (fun e => by have:=Option.some.inj e;omega)).trans (h5.block k hk hne)⟩
def STr (S H0 : Nat) (SC C0 : Array Value) (w' : World) : Prop:=Held w' S 74 SC ∧ Held w' H0 31 C0
theorem STr.below {S H0 : Nat} {SC C0 : Array Value} {w1 w2 : World} (h : STr S H0 SC C0 w1) (hb : Below w1.heap.size w1 w2) : STr S H0 SC C0 w2:=⟨h.1.keep hb,h.2.keep hb⟩
theorem try_any (h : Srf w B S An nn cn At nt ct ns t g left short) (hr : rightN ns g = true) (a : Nat) (ha : a ≤ t.length) (hl0 : 0 ≤ left) (hl1 : left ≤ 999999) :
    Calls Try.prog 44 #[.pointer (some ⟨S,0,none⟩),.int .i64 (a : Int)] w fun e w' => ∃ (s : Spn) (b : Bool) (left' : Int) (sh : Bool),e = .returned (.tuple #[.agg (hitC s),.bool b]) ∧ TryP ns t g a left s b left' sh ∧ Srf w' B S An nn cn At nt ct ns t g left' sh ∧ w.grownBy w' (some S):=by
 have hAt:=lhi (fun w' (hb : Below w.heap.size w w') => mat_any (g:=g) (at_:=(a : Int)) (fuel:=left) (h.inn.below (hb.mono h.inn.base)) (by omega))
 have hok:=lhi (show rightN ns g = true ∧ (0 ≤ (a : Int) ∧ (a : Int) ≤ t.length) ∧ 0 ≤ left from ⟨hr,by omega,hl0⟩)
 have hh:=lhi h
 have hSl:=lhi h.held.lt
 clear h hl0 hl1 hr
 replace ha:=lhi ha
 have hb2:=lhi ((Below.refl w.heap.size w).alloc (nlr _) (.cells #[.int .i64 0,.int .i64 0,.int .i64 0,.int .i64 0,.int .i64 0,.int .i64 0,.int .i64 0,.int .i64 0,.int .i64 0,.int .i64 0,.int .i64 0,.int .i64 0,.int .i64 0,.int .i64 0,.int .i64 0,.int .i64 0,.int .i64 0,.int .i64 0,.int .i64 0,.int .i64 0] 31))
 have hH2:=lhi (held_new w 31 #[.int .i64 0,.int .i64 0,.int .i64 0,.int .i64 0,.int .i64 0,.int .i64 0,.int .i64 0,.int .i64 0,.int .i64 0,.int .i64 0,.int .i64 0,.int .i64 0,.int .i64 0,.int .i64 0,.int .i64 0,.int .i64 0,.int .i64 0,.int .i64 0,.int .i64 0,.int .i64 0])
 have hS2:=lhi (hh.out.held.alloc (.cells #[.int .i64 0,.int .i64 0,.int .i64 0,.int .i64 0,.int .i64 0,.int .i64 0,.int .i64 0,.int .i64 0,.int .i64 0,.int .i64 0,.int .i64 0,.int .i64 0,.int .i64 0,.int .i64 0,.int .i64 0,.int .i64 0,.int .i64 0,.int .i64 0,.int .i64 0,.int .i64 0] 31))
 have hne:=lhi (show w.heap.size ≠ S by have:=hSl.out;omega)
 have hsz2:=lhi (show (w.alloc (.cells #[.int .i64 0,.int .i64 0,.int .i64 0,.int .i64 0,.int .i64 0,.int .i64 0,.int .i64 0,.int .i64 0,.int .i64 0,.int .i64 0,.int .i64 0,.int .i64 0,.int .i64 0,.int .i64 0,.int .i64 0,.int .i64 0,.int .i64 0,.int .i64 0,.int .i64 0,.int .i64 0] 31)).heap.size = w.heap.size + 1 by simp)
 have hgA:=lhi (fun w' (hb : Below (w.alloc (.cells #[.int .i64 0,.int .i64 0,.int .i64 0,.int .i64 0,.int .i64 0,.int .i64 0,.int .i64 0,.int .i64 0,.int .i64 0,.int .i64 0,.int .i64 0,.int .i64 0,.int .i64 0,.int .i64 0,.int .i64 0,.int .i64 0,.int .i64 0,.int .i64 0,.int .i64 0,.int .i64 0] 31)).heap.size (w.alloc (.cells #[.int .i64 0,.int .i64 0,.int .i64 0,.int .i64 0,.int .i64 0,.int .i64 0,.int .i64 0,.int .i64 0,.int .i64 0,.int .i64 0,.int .i64 0,.int .i64 0,.int .i64 0,.int .i64 0,.int .i64 0,.int .i64 0,.int .i64 0,.int .i64 0,.int .i64 0,.int .i64 0] 31)) w') => hAt.out w' (hb2.out.trans (hb.mono hb2.out.size)))
 go_enter Try.func44,Try.ntmps44
 go_upto_region 1 with fail
 generalize w.alloc (.cells #[.int .i64 0,.int .i64 0,.int .i64 0,.int .i64 0,.int .i64 0,.int .i64 0,.int .i64 0,.int .i64 0,.int .i64 0,.int .i64 0,.int .i64 0,.int .i64 0,.int .i64 0,.int .i64 0,.int .i64 0,.int .i64 0,.int .i64 0,.int .i64 0,.int .i64 0,.int .i64 0] 31) = w2 at *
 have hle2:=lhi (show w.heap.size ≤ w2.heap.size from hb2.out.size)
 clear hAt
 have hSd:=lhi (show STr S w.heap.size (fsC An nn cn g At nt ct left short) #[.int .i64 0,.int .i64 0,.int .i64 0,.int .i64 0,.int .i64 0,.int .i64 0,.int .i64 0,.int .i64 0,.int .i64 0,.int .i64 0,.int .i64 0,.int .i64 0,.int .i64 0,.int .i64 0,.int .i64 0,.int .i64 0,.int .i64 0,.int .i64 0,.int .i64 0,.int .i64 0] w2.drew from ⟨hS2.out.drew,hH2.out.drew⟩)
 go_wp2
 refine wp_region_held_drew (S:=STr S w.heap.size (fsC An nn cn g At nt ct left short) #[.int .i64 0,.int .i64 0,.int .i64 0,.int .i64 0,.int .i64 0,.int .i64 0,.int .i64 0,.int .i64 0,.int .i64 0,.int .i64 0,.int .i64 0,.int .i64 0,.int .i64 0,.int .i64 0,.int .i64 0,.int .i64 0,.int .i64 0,.int .i64 0,.int .i64 0,.int .i64 0]) (by kernel_rfl) hSd.out (fun hS => ?_)
 refine wpAnyH_take (i:=0) (v:=?_) rfl (by kernel_rfl) (by kernel_rfl) (by kernel_rfl) (fun _ _ _ h => h) (Or.inl ⟨by rfl,?_⟩) hS ?_
 rotate_left
 · (intro w' hS';go_simp;try with_reducible rfl)
 (try simp only [Act.put,List.getElem_toArray,List.getElem_cons_zero,List.getElem_cons_succ,List.setIfInBounds_toArray,List.set_cons_zero,List.set_cons_succ])
 refine wpAnyH_take (i:=1) (v:=?_) rfl (by kernel_rfl) (by kernel_rfl) (by kernel_rfl) (fun _ _ _ h => h) (Or.inl ⟨by rfl,?_⟩) hS ?_
 rotate_left
 · (intro w' hS';go_simp;try with_reducible rfl)
 (try simp only [Act.put,List.getElem_toArray,List.getElem_cons_zero,List.getElem_cons_succ,List.setIfInBounds_toArray,List.set_cons_zero,List.set_cons_succ])
 refine wpAnyH_take (i:=2) (v:=?_) rfl (by kernel_rfl) (by kernel_rfl) (by kernel_rfl) (fun _ _ _ h => h) (Or.inl ⟨by rfl,?_⟩) hS ?_
 rotate_left
 · (intro w' hS';go_simp;try with_reducible rfl)
 (try simp only [Act.put,List.getElem_toArray,List.getElem_cons_zero,List.getElem_cons_succ,List.setIfInBounds_toArray,List.set_cons_zero,List.set_cons_succ])
 refine wpAnyH_take (i:=3) (v:=?_) rfl (by kernel_rfl) (by kernel_rfl) (by kernel_rfl) (fun _ _ _ h => h) (Or.inl ⟨by rfl,?_⟩) hS ?_
 rotate_left
 · (intro w' hS';have hc0 : w'.cell? ⟨S,0,none⟩ = some (.slice An nn cn):=hS'.1.at_ rfl;have hc1 : w'.cell? ⟨S,1,none⟩ = some (.int .i64 g):=hS'.1.at_ rfl;go_simp;try with_reducible rfl)
 (try simp only [Act.put,List.getElem_toArray,List.getElem_cons_zero,List.getElem_cons_succ,List.setIfInBounds_toArray,List.set_cons_zero,List.set_cons_succ])
 refine wpAnyH_take (i:=4) (v:=?_) rfl (by kernel_rfl) (by kernel_rfl) (by kernel_rfl) (fun _ _ _ h => h) (Or.inl ⟨by rfl,?_⟩) hS ?_
 rotate_left
 · (intro w' hS';go_simp;try with_reducible rfl)
 (try simp only [Act.put,List.getElem_toArray,List.getElem_cons_zero,List.getElem_cons_succ,List.setIfInBounds_toArray,List.set_cons_zero,List.set_cons_succ])
 refine wpAnyH_take (i:=5) (v:=?_) rfl (by kernel_rfl) (by kernel_rfl) (by kernel_rfl) (fun _ _ _ h => h) (Or.inl ⟨by rfl,?_⟩) hS ?_
 rotate_left
 · (intro w' hS';go_simp;try with_reducible rfl)
 (try simp only [Act.put,List.getElem_toArray,List.getElem_cons_zero,List.getElem_cons_succ,List.setIfInBounds_toArray,List.set_cons_zero,List.set_cons_succ])
 refine wpAnyH_take (i:=6) (v:=?_) rfl (by kernel_rfl) (by kernel_rfl) (by kernel_rfl) (fun _ _ _ h => h) (Or.inl ⟨by rfl,?_⟩) hS ?_
 rotate_left
 · (intro w' hS';go_simp;try with_reducible rfl)
 (try simp only [Act.put,List.getElem_toArray,List.getElem_cons_zero,List.getElem_cons_succ,List.setIfInBounds_toArray,List.set_cons_zero,List.set_cons_succ])
 refine wpAnyH_take (i:=7) (v:=?_) rfl (by kernel_rfl) (by kernel_rfl) (by kernel_rfl) (fun _ _ _ h => h) (Or.inl ⟨by rfl,?_⟩) hS ?_
 rotate_left
 · (intro w' hS';have hc2 : w'.cell? ⟨S,2,none⟩ = some (.slice At nt ct):=hS'.1.at_ rfl;go_simp;try with_reducible rfl)
 (try simp only [Act.put,List.getElem_toArray,List.getElem_cons_zero,List.getElem_cons_succ,List.setIfInBounds_toArray,List.set_cons_zero,List.set_cons_succ])
 refine wpAnyH_take (i:=8) (v:=?_) rfl (by kernel_rfl) (by kernel_rfl) (by kernel_rfl) (fun _ _ _ h => h) (Or.inl ⟨by rfl,?_⟩) hS ?_
 rotate_left
 · (intro w' hS';go_simp;try with_reducible rfl)
 (try simp only [Act.put,List.getElem_toArray,List.getElem_cons_zero,List.getElem_cons_succ,List.setIfInBounds_toArray,List.set_cons_zero,List.set_cons_succ])
 refine wpAnyH_take (i:=9) (v:=?_) rfl (by kernel_rfl) (by kernel_rfl) (by kernel_rfl) (fun _ _ _ h => h) (Or.inl ⟨by rfl,?_⟩) hS ?_
 rotate_left
 · (intro w' hS';go_simp;try with_reducible rfl)
 (try simp only [Act.put,List.getElem_toArray,List.getElem_cons_zero,List.getElem_cons_succ,List.setIfInBounds_toArray,List.set_cons_zero,List.set_cons_succ])
 refine wpAnyH_take (i:=10) (v:=?_) rfl (by kernel_rfl) (by kernel_rfl) (by kernel_rfl) (fun _ _ _ h => h) (Or.inl ⟨by rfl,?_⟩) hS ?_
 rotate_left
 · (intro w' hS';go_simp;try with_reducible rfl)
 (try simp only [Act.put,List.getElem_toArray,List.getElem_cons_zero,List.getElem_cons_succ,List.setIfInBounds_toArray,List.set_cons_zero,List.set_cons_succ])
 refine wpAnyH_take (i:=11) (v:=?_) rfl (by kernel_rfl) (by kernel_rfl) (by kernel_rfl) (fun _ _ _ h => h) (Or.inl ⟨by rfl,?_⟩) hS ?_
 rotate_left
 · (intro w' hS';go_simp;try with_reducible rfl)
 (try simp only [Act.put,List.getElem_toArray,List.getElem_cons_zero,List.getElem_cons_succ,List.setIfInBounds_toArray,List.set_cons_zero,List.set_cons_succ])
 refine wpAnyH_take (i:=12) (v:=?_) rfl (by kernel_rfl) (by kernel_rfl) (by kernel_rfl) (fun _ _ _ h => h) (Or.inl ⟨by rfl,?_⟩) hS ?_
 rotate_left
 · (intro w' hS';have hc3 : w'.cell? ⟨S,3,none⟩ = some (.int .i64 left):=hS'.1.at_ rfl;go_simp;try with_reducible rfl)
 (try simp only [Act.put,List.getElem_toArray,List.getElem_cons_zero,List.getElem_cons_succ,List.setIfInBounds_toArray,List.set_cons_zero,List.set_cons_succ])
 refine wpAnyH_ready (rs:=[13,19]) (by kernel_rfl) (by simp) ?_
 refine AllReadyH.cons rfl (fun K hK => ?_) (AllReadyH.cons rfl (fun K hK => ?_) AllReadyH.nil)
 · go_simp
   refine (hgA.out _ ((Below.refl w2.heap.size w2).drew)).mono ?_
   rintro e w3 ⟨hP,hb3⟩
   obtain ⟨s,b,left',en,sh,rfl,hsh,hT⟩:=try_of hok.out hP
   have hTT:=lhi hT
   go_simp
   refine hK.out _ _ (hS.below hb3) (fun _ => ?_)
   clear hK K
   replace hS:=hS.below hb3
   (try simp only [Act.put,List.getElem_toArray,List.getElem_cons_zero,List.getElem_cons_succ,List.setIfInBounds_toArray,List.set_cons_zero,List.set_cons_succ])
   refine wpAnyH_take (i:=14) (v:=?_) rfl (by kernel_rfl) (by kernel_rfl) (by kernel_rfl) (fun _ _ _ h => h) (Or.inl ⟨by rfl,?_⟩) hS ?_
   rotate_left
   · (intro w' hS';go_simp;try with_reducible rfl)
   (try simp only [Act.put,List.getElem_toArray,List.getElem_cons_zero,List.getElem_cons_succ,List.setIfInBounds_toArray,List.set_cons_zero,List.set_cons_succ])
   refine wpAnyH_take (i:=15) (v:=?_) rfl (by kernel_rfl) (by kernel_rfl) (by kernel_rfl) (fun _ _ _ h => h) (Or.inl ⟨by rfl,?_⟩) hS ?_
   rotate_left
   · (intro w' hS';go_simp;try with_reducible rfl)
   (try simp only [Act.put,List.getElem_toArray,List.getElem_cons_zero,List.getElem_cons_succ,List.setIfInBounds_toArray,List.set_cons_zero,List.set_cons_succ])
   refine wpAnyH_take (i:=16) (v:=?_) rfl (by kernel_rfl) (by kernel_rfl) (by kernel_rfl) (fun _ _ _ h => h) (Or.inl ⟨by rfl,?_⟩) hS ?_
   rotate_left
   · (intro w' hS';go_simp;try with_reducible rfl)
   (try simp only [Act.put,List.getElem_toArray,List.getElem_cons_zero,List.getElem_cons_succ,List.setIfInBounds_toArray,List.set_cons_zero,List.set_cons_succ])
   refine wpAnyH_take (i:=17) (v:=?_) rfl (by kernel_rfl) (by kernel_rfl) (by kernel_rfl) (fun _ _ _ h => h) (Or.inl ⟨by rfl,?_⟩) hS ?_
   rotate_left
   · (intro w' hS';go_simp;try with_reducible rfl)
   (try simp only [Act.put,List.getElem_toArray,List.getElem_cons_zero,List.getElem_cons_succ,List.setIfInBounds_toArray,List.set_cons_zero,List.set_cons_succ])
   refine wpAnyH_take (i:=18) (v:=?_) rfl (by kernel_rfl) (by kernel_rfl) (by kernel_rfl) (fun _ _ _ h => h) (Or.inl ⟨by rfl,?_⟩) hS ?_
   rotate_left
   · (intro w' hS';go_simp;try with_reducible rfl)
   (try simp only [Act.put,List.getElem_toArray,List.getElem_cons_zero,List.getElem_cons_succ,List.setIfInBounds_toArray,List.set_cons_zero,List.set_cons_succ])
   refine wpAnyH_ready (rs:=[19]) (by kernel_rfl) (by simp) ?_
   refine AllReadyH.cons rfl (fun K hK => ?_) AllReadyH.nil
   go_simp
   refine hK.out _ _ (hS.below ((Below.refl _ _).alloc (nlr _) (.cells #[.int .i64 0,.int .i64 0,.int .i64 0,.int .i64 0,.int .i64 0,.int .i64 0,.int .i64 0,.int .i64 0,.int .i64 0,.int .i64 0,.int .i64 0,.int .i64 0,.int .i64 0,.int .i64 0,.int .i64 0,.int .i64 0,.int .i64 0,.int .i64 0,.int .i64 0,.int .i64 0] 31))) (fun _ => ?_)
   clear hK K
   replace hS:=hS.below ((Below.refl _ _).alloc (nlr _) (.cells #[.int .i64 0,.int .i64 0,.int .i64 0,.int .i64 0,.int .i64 0,.int .i64 0,.int .i64 0,.int .i64 0,.int .i64 0,.int .i64 0,.int .i64 0,.int .i64 0,.int .i64 0,.int .i64 0,.int .i64 0,.int .i64 0,.int .i64 0,.int .i64 0,.int .i64 0,.int .i64 0] 31))
   (try simp only [Act.put,List.getElem_toArray,List.getElem_cons_zero,List.getElem_cons_succ,List.setIfInBounds_toArray,List.set_cons_zero,List.set_cons_succ])
   have hKh:=lhi (held_new w3 31 #[.int .i64 0,.int .i64 0,.int .i64 0,.int .i64 0,.int .i64 0,.int .i64 0,.int .i64 0,.int .i64 0,.int .i64 0,.int .i64 0,.int .i64 0,.int .i64 0,.int .i64 0,.int .i64 0,.int .i64 0,.int .i64 0,.int .i64 0,.int .i64 0,.int .i64 0,.int .i64 0])
   have hb5:=lhi (((Below.refl w2.heap.size w2).drew).trans ((hb3.mono (nlr _)).trans ((Below.refl w3.heap.size w3).alloc (nlr _) (.cells #[.int .i64 0,.int .i64 0,.int .i64 0,.int .i64 0,.int .i64 0,.int .i64 0,.int .i64 0,.int .i64 0,.int .i64 0,.int .i64 0,.int .i64 0,.int .i64 0,.int .i64 0,.int .i64 0,.int .i64 0,.int .i64 0,.int .i64 0,.int .i64 0,.int .i64 0,.int .i64 0] 31) |>.mono hb3.size)))
   have hKw:=lhi (show w.heap.size + 1 ≤ w3.heap.size by have:=hb3.size;have h1:=hsz2.out;have h2 : w2.heap.size ≤ w3.heap.size:=this;omega)
   generalize hw5 : w3.alloc (.cells #[.int .i64 0,.int .i64 0,.int .i64 0,.int .i64 0,.int .i64 0,.int .i64 0,.int .i64 0,.int .i64 0,.int .i64 0,.int .i64 0,.int .i64 0,.int .i64 0,.int .i64 0,.int .i64 0,.int .i64 0,.int .i64 0,.int .i64 0,.int .i64 0,.int .i64 0,.int .i64 0] 31) = w5 at *
   generalize w3.heap.size = KH at *
   clear hw5
   have hCs:=lhi (hitC_size s)
   have hCo:=lhi (hit_cells s)
   have hFx:=lhi (fun w' (hg : w.grownBy w' (some S)) (hd : Held w' S 74 (fsC An nn cn g At nt ct left' sh)) => show Srf w' B S An nn cn At nt ct ns t g left' sh ∧ w.grownBy w' (some S) from ⟨hh.out.turned hg hd,hg⟩)
   generalize hCM : hitC s = CM at *
   have hret:=lhi (show Ending.returned (.tuple #[.agg CM,.bool b]) = .returned (.tuple #[.agg (hitC s),.bool b]) from by rw [hCM])
   replace hCM:=lhi hCM
   refine wpAnyH_ready (rs:=[20]) (by kernel_rfl) (by simp) ?_
   refine AllReadyH.cons rfl (fun K hK => ?_) AllReadyH.nil
   refine step_store_hit (.tmp 6) (.tmp 25) rfl rfl KH rfl CM rfl #[.int .i64 0,.int .i64 0,.int .i64 0,.int .i64 0,.int .i64 0,.int .i64 0,.int .i64 0,.int .i64 0,.int .i64 0,.int .i64 0,.int .i64 0,.int .i64 0,.int .i64 0,.int .i64 0,.int .i64 0,.int .i64 0,.int .i64 0,.int .i64 0,.int .i64 0,.int .i64 0] hKh.out hCs.out rfl hCo.out ?_
   have hKS:=lhi (show KH ≠ S ∧ KH ≠ w.heap.size by have:=hKw.out;have h2:=hSl.out;omega)
   have hSb : STr S w.heap.size (fsC An nn cn g At nt ct left short) #[.int .i64 0,.int .i64 0,.int .i64 0,.int .i64 0,.int .i64 0,.int .i64 0,.int .i64 0,.int .i64 0,.int .i64 0,.int .i64 0,.int .i64 0,.int .i64 0,.int .i64 0,.int .i64 0,.int .i64 0,.int .i64 0,.int .i64 0,.int .i64 0,.int .i64 0,.int .i64 0] (w5.setRow KH CM):=⟨hS.1.row_far hKS.out.1.symm _,hS.2.row_far hKS.out.2.symm _⟩
   refine hK.out _ _ hSb (fun _ => ?_)
   clear hK K
   have hg6:=lhi (show w.grownBy (w5.setRow KH CM) (some S) from grown_new (by have:=hKw.out;omega) (grown_of (hb2.out.trans (hb5.out.mono hle2.out)) _) (grown_row CM))
   have hK6:=lhi (hKh.out.row CM)
   have hS6:=lhi hSb
   clear hS hKh hb5 hT hSd
   replace hS:=hSb
   (try simp only [Act.put,List.getElem_toArray,List.getElem_cons_zero,List.getElem_cons_succ,List.setIfInBounds_toArray,List.set_cons_zero,List.set_cons_succ])
   refine wpAnyH_take (i:=21) (v:=?_) rfl (by kernel_rfl) (by kernel_rfl) (by kernel_rfl) (fun _ _ _ h => h) (Or.inl ⟨by rfl,?_⟩) hS ?_
   rotate_left
   · (intro w' hS';go_simp;try with_reducible rfl)
   (try simp only [Act.put,List.getElem_toArray,List.getElem_cons_zero,List.getElem_cons_succ,List.setIfInBounds_toArray,List.set_cons_zero,List.set_cons_succ])
   refine wpAnyH_take (i:=22) (v:=?_) rfl (by kernel_rfl) (by kernel_rfl) (by kernel_rfl) (fun _ _ _ h => h) (Or.inl ⟨by rfl,?_⟩) hS ?_
   rotate_left
   · (intro w' hS';go_simp;try with_reducible rfl)
   (try simp only [Act.put,List.getElem_toArray,List.getElem_cons_zero,List.getElem_cons_succ,List.setIfInBounds_toArray,List.set_cons_zero,List.set_cons_succ])
   refine wpAnyH_take (i:=23) (v:=?_) rfl (by kernel_rfl) (by kernel_rfl) (by kernel_rfl) (fun _ _ _ h => h) (Or.inl ⟨by rfl,?_⟩) hS ?_
   rotate_left
   · (intro w' hS';go_simp;try with_reducible rfl)
   (try simp only [Act.put,List.getElem_toArray,List.getElem_cons_zero,List.getElem_cons_succ,List.setIfInBounds_toArray,List.set_cons_zero,List.set_cons_succ])
   refine wpAnyH_done (by kernel_rfl) ?_ _
   clear hS hSb
   generalize w5.setRow KH CM = w6 at *
   have c3 : w6.cell? ⟨S,3,none⟩ = some (.int .i64 left):=hS6.out.1.at_ rfl
   have c4 : w6.cell? ⟨S,4,none⟩ = some (.bool short):=hS6.out.1.at_ rfl
   have t3:=hS6.out.1.thawed 3
   have t4:=hS6.out.1.thawed 4
   have hS7:=lhi (show Held ((w6.setCell ⟨S,3,none⟩ (.int .i64 left')).setCell ⟨S,4,none⟩ (.bool sh)) S 74 (fsC An nn cn g At nt ct left' sh) from (hS6.out.1.put 3 (.int .i64 left')).put 4 (.bool sh))
   have hK7:=lhi ((hK6.out.far (a:=⟨S,3,none⟩) hKS.out.1 (.int .i64 left')).far (a:=⟨S,4,none⟩) hKS.out.1 (.bool sh))
   have hR7:=lhi ((hS6.out.2.far (a:=⟨S,3,none⟩) hne.out (.int .i64 left')).far (a:=⟨S,4,none⟩) hne.out (.bool sh))
   have hg7:=lhi (grown_trans (grown_trans hg6.out (grown_cell w6 S 3 (.int .i64 left'))) (grown_cell _ S 4 (.bool sh)))
   have hlast:=lhi (hFx.out _ (grown_new (nlr _) hg7.out (grown_row (b:=w.heap.size) CM)) (hS7.out.row_far hne.out.symm CM))
   have hR8:=lhi (hR7.out.row CM)
   clear hFx hg6 hK6 hS6 hS7 hg7
   go_wp2_with (first
    | (refine wpList_load_row rfl 31 (.tmp 6) rfl KH rfl 31 _ (0,0) _ hK7.out Try.underlying31 rfl (by rw [hCs.out];exact size_hit) ?_)
    | (refine wpList_store_row rfl 31 (.tmp 4) (.tmp 38) rfl w.heap.size CM rfl rfl 31 _ hR7.out (by rw [hCs.out];exact size_hit) (by rw [hCs.out];rfl) hCo.out ?_))
   exact bodyPost_ret (results_cell_two Try.results44 _ _ w.heap.size 31 CM (0,0) _ rfl (x:=.bool b) rfl hR8.out Try.underlying31 rfl (by rw [hCs.out];exact size_hit)) rfl ⟨s,b,left',sh,hret.out,hTT.out,hlast.out.1,hlast.out.2⟩
 · go_simp
   refine hK.out _ _ (hS.below ((Below.refl _ _).alloc (nlr _) (.cells #[.int .i64 0,.int .i64 0,.int .i64 0,.int .i64 0,.int .i64 0,.int .i64 0,.int .i64 0,.int .i64 0,.int .i64 0,.int .i64 0,.int .i64 0,.int .i64 0,.int .i64 0,.int .i64 0,.int .i64 0,.int .i64 0,.int .i64 0,.int .i64 0,.int .i64 0,.int .i64 0] 31))) (fun _ => ?_)
   clear hK K
   replace hS:=hS.below ((Below.refl _ _).alloc (nlr _) (.cells #[.int .i64 0,.int .i64 0,.int .i64 0,.int .i64 0,.int .i64 0,.int .i64 0,.int .i64 0,.int .i64 0,.int .i64 0,.int .i64 0,.int .i64 0,.int .i64 0,.int .i64 0,.int .i64 0,.int .i64 0,.int .i64 0,.int .i64 0,.int .i64 0,.int .i64 0,.int .i64 0] 31))
   (try simp only [Act.put,List.getElem_toArray,List.getElem_cons_zero,List.getElem_cons_succ,List.setIfInBounds_toArray,List.set_cons_zero,List.set_cons_succ])
   have hK0:=lhi ((held_new w2 31 #[.int .i64 0,.int .i64 0,.int .i64 0,.int .i64 0,.int .i64 0,.int .i64 0,.int .i64 0,.int .i64 0,.int .i64 0,.int .i64 0,.int .i64 0,.int .i64 0,.int .i64 0,.int .i64 0,.int .i64 0,.int .i64 0,.int .i64 0,.int .i64 0,.int .i64 0,.int .i64 0]).drew)
   have hba:=lhi (((Below.refl w2.heap.size w2).alloc (nlr _) (.cells #[.int .i64 0,.int .i64 0,.int .i64 0,.int .i64 0,.int .i64 0,.int .i64 0,.int .i64 0,.int .i64 0,.int .i64 0,.int .i64 0,.int .i64 0,.int .i64 0,.int .i64 0,.int .i64 0,.int .i64 0,.int .i64 0,.int .i64 0,.int .i64 0,.int .i64 0,.int .i64 0] 31)).drew)
   have hkw0:=lhi (show w2.heap.size = w.heap.size + 1 from hsz2.out)
   replace hS : STr S w.heap.size (fsC An nn cn g At nt ct left short) #[.int .i64 0,.int .i64 0,.int .i64 0,.int .i64 0,.int .i64 0,.int .i64 0,.int .i64 0,.int .i64 0,.int .i64 0,.int .i64 0,.int .i64 0,.int .i64 0,.int .i64 0,.int .i64 0,.int .i64 0,.int .i64 0,.int .i64 0,.int .i64 0,.int .i64 0,.int .i64 0] (w2.alloc (.cells #[.int .i64 0,.int .i64 0,.int .i64 0,.int .i64 0,.int .i64 0,.int .i64 0,.int .i64 0,.int .i64 0,.int .i64 0,.int .i64 0,.int .i64 0,.int .i64 0,.int .i64 0,.int .i64 0,.int .i64 0,.int .i64 0,.int .i64 0,.int .i64 0,.int .i64 0,.int .i64 0] 31)).drew:=hS
   refine wpAnyH_ready (rs:=[13]) (by kernel_rfl) (by simp) ?_
   refine AllReadyH.cons rfl (fun K hK => ?_) AllReadyH.nil
   go_simp
   refine (hgA.out _ hba.out).mono ?_
   rintro e w5 ⟨hP,hb3⟩
   obtain ⟨s,b,left',en,sh,rfl,hsh,hT⟩:=try_of hok.out hP
   go_simp
   refine hK.out _ _ (hS.below hb3) (fun _ => ?_)
   clear hK K
   replace hS:=hS.below hb3
   (try simp only [Act.put,List.getElem_toArray,List.getElem_cons_zero,List.getElem_cons_succ,List.setIfInBounds_toArray,List.set_cons_zero,List.set_cons_succ])
   have hKh:=lhi (hK0.out.keep hb3)
   have hTT:=lhi hT
   have hb5:=lhi (hba.out.trans (hb3.mono hba.out.size))
   have hKw:=lhi (show w.heap.size + 1 ≤ w2.heap.size by have:=hkw0.out;omega)
   generalize w2.heap.size = KH at *
   refine wpAnyH_take (i:=14) (v:=?_) rfl (by kernel_rfl) (by kernel_rfl) (by kernel_rfl) (fun _ _ _ h => h) (Or.inl ⟨by rfl,?_⟩) hS ?_
   rotate_left
   · (intro w' hS';go_simp;try with_reducible rfl)
   (try simp only [Act.put,List.getElem_toArray,List.getElem_cons_zero,List.getElem_cons_succ,List.setIfInBounds_toArray,List.set_cons_zero,List.set_cons_succ])
   refine wpAnyH_take (i:=15) (v:=?_) rfl (by kernel_rfl) (by kernel_rfl) (by kernel_rfl) (fun _ _ _ h => h) (Or.inl ⟨by rfl,?_⟩) hS ?_
   rotate_left
   · (intro w' hS';go_simp;try with_reducible rfl)
   (try simp only [Act.put,List.getElem_toArray,List.getElem_cons_zero,List.getElem_cons_succ,List.setIfInBounds_toArray,List.set_cons_zero,List.set_cons_succ])
   refine wpAnyH_take (i:=16) (v:=?_) rfl (by kernel_rfl) (by kernel_rfl) (by kernel_rfl) (fun _ _ _ h => h) (Or.inl ⟨by rfl,?_⟩) hS ?_
   rotate_left
   · (intro w' hS';go_simp;try with_reducible rfl)
   (try simp only [Act.put,List.getElem_toArray,List.getElem_cons_zero,List.getElem_cons_succ,List.setIfInBounds_toArray,List.set_cons_zero,List.set_cons_succ])
   refine wpAnyH_take (i:=17) (v:=?_) rfl (by kernel_rfl) (by kernel_rfl) (by kernel_rfl) (fun _ _ _ h => h) (Or.inl ⟨by rfl,?_⟩) hS ?_
   rotate_left
   · (intro w' hS';go_simp;try with_reducible rfl)
   (try simp only [Act.put,List.getElem_toArray,List.getElem_cons_zero,List.getElem_cons_succ,List.setIfInBounds_toArray,List.set_cons_zero,List.set_cons_succ])
   refine wpAnyH_take (i:=18) (v:=?_) rfl (by kernel_rfl) (by kernel_rfl) (by kernel_rfl) (fun _ _ _ h => h) (Or.inl ⟨by rfl,?_⟩) hS ?_
   rotate_left
   · (intro w' hS';go_simp;try with_reducible rfl)
   (try simp only [Act.put,List.getElem_toArray,List.getElem_cons_zero,List.getElem_cons_succ,List.setIfInBounds_toArray,List.set_cons_zero,List.set_cons_succ])
   have hCs:=lhi (hitC_size s)
   have hCo:=lhi (hit_cells s)
   have hFx:=lhi (fun w' (hg : w.grownBy w' (some S)) (hd : Held w' S 74 (fsC An nn cn g At nt ct left' sh)) => show Srf w' B S An nn cn At nt ct ns t g left' sh ∧ w.grownBy w' (some S) from ⟨hh.out.turned hg hd,hg⟩)
   generalize hCM : hitC s = CM at *
   have hret:=lhi (show Ending.returned (.tuple #[.agg CM,.bool b]) = .returned (.tuple #[.agg (hitC s),.bool b]) from by rw [hCM])
   replace hCM:=lhi hCM
   refine wpAnyH_ready (rs:=[20]) (by kernel_rfl) (by simp) ?_
   refine AllReadyH.cons rfl (fun K hK => ?_) AllReadyH.nil
   refine step_store_hit (.tmp 6) (.tmp 25) rfl rfl KH rfl CM rfl #[.int .i64 0,.int .i64 0,.int .i64 0,.int .i64 0,.int .i64 0,.int .i64 0,.int .i64 0,.int .i64 0,.int .i64 0,.int .i64 0,.int .i64 0,.int .i64 0,.int .i64 0,.int .i64 0,.int .i64 0,.int .i64 0,.int .i64 0,.int .i64 0,.int .i64 0,.int .i64 0] hKh.out hCs.out rfl hCo.out ?_
   have hKS:=lhi (show KH ≠ S ∧ KH ≠ w.heap.size by have:=hKw.out;have h2:=hSl.out;omega)
   have hSb : STr S w.heap.size (fsC An nn cn g At nt ct left short) #[.int .i64 0,.int .i64 0,.int .i64 0,.int .i64 0,.int .i64 0,.int .i64 0,.int .i64 0,.int .i64 0,.int .i64 0,.int .i64 0,.int .i64 0,.int .i64 0,.int .i64 0,.int .i64 0,.int .i64 0,.int .i64 0,.int .i64 0,.int .i64 0,.int .i64 0,.int .i64 0] (w5.setRow KH CM):=⟨hS.1.row_far hKS.out.1.symm _,hS.2.row_far hKS.out.2.symm _⟩
   refine hK.out _ _ hSb (fun _ => ?_)
   clear hK K
   have hg6:=lhi (show w.grownBy (w5.setRow KH CM) (some S) from grown_new (by have:=hKw.out;omega) (grown_of (hb2.out.trans (hb5.out.mono hle2.out)) _) (grown_row CM))
   have hK6:=lhi (hKh.out.row CM)
   have hS6:=lhi hSb
   clear hS hKh hb5 hT hSd
   replace hS:=hSb
   (try simp only [Act.put,List.getElem_toArray,List.getElem_cons_zero,List.getElem_cons_succ,List.setIfInBounds_toArray,List.set_cons_zero,List.set_cons_succ])
   refine wpAnyH_take (i:=21) (v:=?_) rfl (by kernel_rfl) (by kernel_rfl) (by kernel_rfl) (fun _ _ _ h => h) (Or.inl ⟨by rfl,?_⟩) hS ?_
   rotate_left
   · (intro w' hS';go_simp;try with_reducible rfl)
   (try simp only [Act.put,List.getElem_toArray,List.getElem_cons_zero,List.getElem_cons_succ,List.setIfInBounds_toArray,List.set_cons_zero,List.set_cons_succ])
   refine wpAnyH_take (i:=22) (v:=?_) rfl (by kernel_rfl) (by kernel_rfl) (by kernel_rfl) (fun _ _ _ h => h) (Or.inl ⟨by rfl,?_⟩) hS ?_
   rotate_left
   · (intro w' hS';go_simp;try with_reducible rfl)
   (try simp only [Act.put,List.getElem_toArray,List.getElem_cons_zero,List.getElem_cons_succ,List.setIfInBounds_toArray,List.set_cons_zero,List.set_cons_succ])
   refine wpAnyH_take (i:=23) (v:=?_) rfl (by kernel_rfl) (by kernel_rfl) (by kernel_rfl) (fun _ _ _ h => h) (Or.inl ⟨by rfl,?_⟩) hS ?_
   rotate_left
   · (intro w' hS';go_simp;try with_reducible rfl)
   (try simp only [Act.put,List.getElem_toArray,List.getElem_cons_zero,List.getElem_cons_succ,List.setIfInBounds_toArray,List.set_cons_zero,List.set_cons_succ])
   refine wpAnyH_done (by kernel_rfl) ?_ _
   clear hS hSb
   generalize w5.setRow KH CM = w6 at *
   have c3 : w6.cell? ⟨S,3,none⟩ = some (.int .i64 left):=hS6.out.1.at_ rfl
   have c4 : w6.cell? ⟨S,4,none⟩ = some (.bool short):=hS6.out.1.at_ rfl
   have t3:=hS6.out.1.thawed 3
   have t4:=hS6.out.1.thawed 4
   have hS7:=lhi (show Held ((w6.setCell ⟨S,3,none⟩ (.int .i64 left')).setCell ⟨S,4,none⟩ (.bool sh)) S 74 (fsC An nn cn g At nt ct left' sh) from (hS6.out.1.put 3 (.int .i64 left')).put 4 (.bool sh))
   have hK7:=lhi ((hK6.out.far (a:=⟨S,3,none⟩) hKS.out.1 (.int .i64 left')).far (a:=⟨S,4,none⟩) hKS.out.1 (.bool sh))
   have hR7:=lhi ((hS6.out.2.far (a:=⟨S,3,none⟩) hne.out (.int .i64 left')).far (a:=⟨S,4,none⟩) hne.out (.bool sh))
   have hg7:=lhi (grown_trans (grown_trans hg6.out (grown_cell w6 S 3 (.int .i64 left'))) (grown_cell _ S 4 (.bool sh)))
   have hlast:=lhi (hFx.out _ (grown_new (nlr _) hg7.out (grown_row (b:=w.heap.size) CM)) (hS7.out.row_far hne.out.symm CM))
   have hR8:=lhi (hR7.out.row CM)
   clear hFx hg6 hK6 hS6 hS7 hg7
   go_wp2_with (first
    | (refine wpList_load_row rfl 31 (.tmp 6) rfl KH rfl 31 _ (0,0) _ hK7.out Try.underlying31 rfl (by rw [hCs.out];exact size_hit) ?_)
    | (refine wpList_store_row rfl 31 (.tmp 4) (.tmp 38) rfl w.heap.size CM rfl rfl 31 _ hR7.out (by rw [hCs.out];exact size_hit) (by rw [hCs.out];rfl) hCo.out ?_))
   exact bodyPost_ret (results_cell_two Try.results44 _ _ w.heap.size 31 CM (0,0) _ rfl (x:=.bool b) rfl hR8.out Try.underlying31 rfl (by rw [hCs.out];exact size_hit)) rfl ⟨s,b,left',sh,hret.out,hTT.out,hlast.out.1,hlast.out.2⟩
end
end Go.Proofs.Ytbdfhmefjfaofaa
