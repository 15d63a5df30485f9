/- Contracts and plain facts: M23. -/
import Derived.Test.YtonjnagcdnmcpaaGreatDoorM20
set_option linter.unusedVariables false
set_option linter.unusedSimpArgs false
set_option maxRecDepth 100000
set_option maxHeartbeats 32000000
namespace Go.Proofs.YtonjnagcdnmcpaaGreatDoor
open Go.RowKit
def Mx (w : World) : Prop:=∃ m : Int,0 < w.heap.size ∧ w.cell? ⟨0,0,none⟩ = some (.int .i64 m)
theorem max_of {W : World} (h : W.ShapedOpen Tryz.prog) : Mx W:=by
 obtain ⟨m,hm⟩:=Tryz.laysM185.s1_3 W h
 exact ⟨m,World.block_lt_of_cell? _ _ hm,hm⟩
theorem Mx.grow {w w' : World} (h : Mx w) (hb : Below w.heap.size w w') : Mx w':=by
 obtain ⟨m,h6,h7⟩:=h
 exact ⟨m,nll h6 hb.size,(hb.cell (p:=⟨0,0,none⟩) h6).trans h7⟩
theorem Inp.of {w : World} {A : Option Addr} {n c : Nat} {l : List UInt8} (hm : Mx w) (h1 : n = l.length) (h2 : n ≤ c) (h3 : c ≤ maxLen) (h4 : n ≤ 1000000) (h5 : Byt w w.heap.size A l) : Inp w A n c l:=⟨h1,h2,h3,h4,h5,hm⟩
theorem Inp.mx {w : World} {A : Option Addr} {n c : Nat} {l : List UInt8} (h : Inp w A n c l) : Mx w:=h.2.2.2.2.2
theorem const_inp {w : World} (hm : Mx w) (l : List UInt8) (k : Nat) (hl : k = l.length) (hs : k ≤ 1000) (fr : Nat × Nat) : Inp (w.alloc (.cells (l.map fun c => Value.int .u8 (c.toNat : Int)).toArray 5 fr)) (some ⟨w.heap.size,0,none⟩) k k l:=by
 subst hl
 exact Inp.of (hm.grow ((Below.refl _ _).alloc (nlr _) _)) rfl (nlr _) (by unfold maxLen;omega) (by omega) ((byt_new w l 5 fr).more (by rw [sizeA'];exact nlr _))
theorem txt_of {w : World} {A : Option Addr} {n c : Nat} {l : List UInt8} (h : Inp w A n c l) : Txt w w.heap.size A n c l:=by
 obtain ⟨h1,h2,h3,h4,h5,m,h6,h7⟩:=h
 exact ⟨h1,h2,h3,h4,nlr _,h5,m,h6,h7⟩
theorem psr_new {w w1 : World} {A : Option Addr} {n c : Nat} {l : List UInt8} (h : Inp w A n c l) (hb : Below w.heap.size w w1) (t : TypeId) (h1 : 43 ≠ t) (h2 : 3 ≠ t) :
    Psr (w1.alloc (.cells (psrC (.slice none 0 0) 0 A n c 0 noCl 0) t)) w.heap.size w1.heap.size A n c l (.slice none 0 0) [] 0 0 noCl 0 :=
 ⟨⟨t,h1,h2,held_new _ _ _⟩,World.ownsRow_nil _ _ _ _,by simp,by simp,hb.size,Nat.zero_le _,fun q h => by simp [noCl] at h,(txt_of h).below (hb.trans ((Below.refl _ _).alloc hb.size _))⟩
theorem rightN_len {ns : List Nod} {g : Int} (h : rightN ns g = true) : 1 ≤ ns.length ∧ ns.length ≤ 1000 ∧ 0 ≤ g ∧ g ≤ 9:=by
 by_cases hx : 1 ≤ ns.length ∧ ns.length ≤ 1000 ∧ 0 ≤ g ∧ g ≤ 9
 · exact hx
 · rw [rightN_size hx] at h;cases h
def FinR (w : World) (ns : List Nod) (g n : Nat) (e : Ending) (w' : World) : Prop :=
 ∃ q cap,e = .returned (.tuple #[.agg #[.slice (some ⟨q,0,none⟩) n cap,.int .i64 (g : Int)],.int .i64 0,.int .i64 0]) ∧ w'.ownsRow w.heap.size 43 10 (.slice (some ⟨q,0,none⟩) n cap) n (nodsL ns) ∧ Below w.heap.size w w' ∧ n ≤ cap ∧ cap ≤ maxLen
theorem FinR.ex {w : World} {ns : List Nod} {g n : Nat} {e : Ending} {w' : World} (h : FinR w ns g n e w') : ∃ q cap,e = .returned (.tuple #[.agg #[.slice (some ⟨q,0,none⟩) n cap,.int .i64 (g : Int)],.int .i64 0,.int .i64 0]) ∧ w'.ownsRow w.heap.size 43 10 (.slice (some ⟨q,0,none⟩) n cap) n (nodsL ns) ∧ Below w.heap.size w w' ∧ n ≤ cap ∧ cap ≤ maxLen:=h
end Go.Proofs.YtonjnagcdnmcpaaGreatDoor
