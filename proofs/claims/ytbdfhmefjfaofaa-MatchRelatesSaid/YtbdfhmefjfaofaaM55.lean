/- Contracts and plain facts: M55. -/
import Derived.Test.YtbdfhmefjfaofaaM54
import Derived.Test.YtbdfhmefjfaofaaM36
set_option linter.unusedVariables false
set_option linter.unusedSimpArgs false
set_option maxRecDepth 100000
set_option maxHeartbeats 32000000
namespace Go.Proofs.Ytbdfhmefjfaofaa
open Go.RowKit
theorem right_n1 {ns : List Nod} {g : Int} (h : rightN ns g = true) : 1 ≤ ns.length ∧ ns.length ≤ 1000:=by
 unfold rightN at h
 simp only [Bool.and_eq_true,decide_eq_true_eq] at h
 omega
theorem AtIn.thru {w : World} {B : Nat} {A : Option Addr} {n c : Nat} {A2 : Option Addr} {n2 c2 : Nat} {ns : List Nod} {t : List UInt8} {g : Int} (h : AtIn w B A n c A2 n2 c2 ns t) (hr : rightN ns g = true) : Thru w B A n c A2 n2 c2 ns t g :=
 have h1:=right_n1 hr
 ⟨h.hn,h.hnc,h.hcm,h.nods,h.hn2,h.hnc2,h.hcm2,h.hl2,h.byt,h.base,right_rt hr,by rw [h.hn];exact h1.2,by rw [h.hn];exact h1.1⟩
theorem told_fin {ns : List Nod} {t : List UInt8} {n : Int} {a : Nat} {M left : Int} {b : Option Spn} (h : Told11 ns t n a M (some (b,left))) : ∃ c hs,Stk ns t [([.node n],pt0 a)] c hs ∧ (c : Int) ≤ M ∧ b = bestF none (hs.map (hitS a)):=by
 generalize ho : some (b,left) = o at h
 cases h with
 | fin h hc =>
  simp only [Option.some.injEq,Prod.mk.injEq] at ho
  exact ⟨_,_,h,hc,ho.1⟩
 | over h => cases ho
theorem rBest_told {w : World} {B : Nat} {A : Option Addr} {n c : Nat} {A2 : Option Addr} {n2 c2 : Nat} {ns : List Nod} {t : List UInt8} {g : Int} {a : Nat} {M left : Int} {b : Option Spn} (h : AtIn w B A n c A2 n2 c2 ns t) (hr : rightN ns g = true) (ha : a ≤ t.length) (hM : M ≤ 200000) (hT : Told11 ns t ((ns.length : Int) - 1) a M (some (b,left))) :
    Calls Try.prog 13 #[.agg #[.slice A n c,.int .i64 g],.slice A2 n2 c2,.int .i64 (a : Int)] w fun e w' => e = .returned (.tuple #[.agg (hitC (ansS b)),.bool b.isSome]) ∧ Below w.heap.size w w':=by
 obtain ⟨c0,hs,hst,hc,rfl⟩:=told_fin hT
 have hn1:=right_n1 hr
 refine (rBest_any (h.thru hr) ha hst (by omega)).mono ?_
 rintro e w' ⟨⟨l,hl,rfl⟩,hb⟩
 refine ⟨?_,hb⟩
 rw [stk_best (right_rt hr) (by omega) (by omega) hst hl.2]
 rfl
end Go.Proofs.Ytbdfhmefjfaofaa
