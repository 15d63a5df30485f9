/- Contracts and plain facts: M39. -/
import Derived.Test.YtbdfhmefjfaofaaM38
set_option linter.unusedVariables false
set_option linter.unusedSimpArgs false
set_option maxRecDepth 100000
set_option maxHeartbeats 32000000
namespace Go.Proofs.Ytbdfhmefjfaofaa
open Go.RowKit
theorem may_no0 {t g a b lo hi q : Int} {s : Nat → Bool} (w : World) (h : ¬ MayP t g 0 a b lo hi q (sameS s zset)) : No ⟨0,a,b,lo,hi,q,s⟩ t g w:=by
 unfold No
 have hb:=lhi (fun o : Obj => (Below.refl w.heap.size w).alloc (nlr _) o)
 have hE:=fun w => set_neq2 s w
 have hG:=fun p q x y w => set_guard2 p q x y w
 rw [nodV_lit]
 generalize sameS s zset = z at *
 generalize wd s 0 = s0 at *
 generalize wd s 1 = s1 at *
 generalize wd s 2 = s2 at *
 generalize wd s 3 = s3 at *
 replace h:=lhi h
 by_cases xa : a = 0
 case neg =>
  have y:=bne_yes xa
  have y2 : (a == 0) = false:=beq_no xa
  clear h
  go_enter Try.func23,Try.ntmps23
  go_wp2
  go_ret
  exact ⟨rfl,hb.out _⟩
 subst xa
 by_cases xb : b = 0
 case neg =>
  have y:=bne_yes xb
  have y2 : (b == 0) = false:=beq_no xb
  clear h
  go_enter Try.func23,Try.ntmps23
  go_wp2
  go_ret
  exact ⟨rfl,hb.out _⟩
 subst xb
 by_cases xq : q = 0
 case neg =>
  have y:=bne_yes xq
  have y2 : (q == 0) = false:=beq_no xq
  clear h
  go_enter Try.func23,Try.ntmps23
  go_wp2
  go_ret
  exact ⟨rfl,hb.out _⟩
 subst xq
 cases z with
 | false =>
  clear h
  simp only [Bool.not_false] at hE
  go_enter Try.func23,Try.ntmps23
  go_wp2
  go_ret
  exact ⟨rfl,hb.out _⟩
 | true =>
 simp only [Bool.not_true] at hE
 by_cases xlo : lo = 0
 case neg =>
  have y:=bne_yes xlo
  have y2 : (lo == 0) = false:=beq_no xlo
  clear h
  go_enter Try.func23,Try.ntmps23
  go_wp2
  go_ret
  exact ⟨rfl,hb.out _⟩
 subst xlo
 by_cases xhi : hi = 0
 case neg =>
  have y:=bne_yes xhi
  have y2 : (hi == 0) = false:=beq_no xhi
  clear h
  go_enter Try.func23,Try.ntmps23
  go_wp2
  go_ret
  exact ⟨rfl,hb.out _⟩
 subst xhi
 exact absurd (.inl ⟨.inl rfl,rfl,rfl,rfl,rfl,rfl,rfl⟩) h.out
theorem may_no7 {t g a b lo hi q : Int} {s : Nat → Bool} (w : World) (h : ¬ MayP t g 7 a b lo hi q (sameS s zset)) : No ⟨7,a,b,lo,hi,q,s⟩ t g w:=by
 unfold No
 have hb:=lhi (fun o : Obj => (Below.refl w.heap.size w).alloc (nlr _) o)
 have hE:=fun w => set_neq2 s w
 have hG:=fun p q x y w => set_guard2 p q x y w
 rw [nodV_lit]
 generalize sameS s zset = z at *
 generalize wd s 0 = s0 at *
 generalize wd s 1 = s1 at *
 generalize wd s 2 = s2 at *
 generalize wd s 3 = s3 at *
 replace h:=lhi h
 by_cases xa : a = 0
 case neg =>
  have y:=bne_yes xa
  have y2 : (a == 0) = false:=beq_no xa
  clear h
  go_enter Try.func23,Try.ntmps23
  go_wp2
  go_ret
  exact ⟨rfl,hb.out _⟩
 subst xa
 by_cases xb : b = 0
 case neg =>
  have y:=bne_yes xb
  have y2 : (b == 0) = false:=beq_no xb
  clear h
  go_enter Try.func23,Try.ntmps23
  go_wp2
  go_ret
  exact ⟨rfl,hb.out _⟩
 subst xb
 by_cases xq : q = 0
 case neg =>
  have y:=bne_yes xq
  have y2 : (q == 0) = false:=beq_no xq
  clear h
  go_enter Try.func23,Try.ntmps23
  go_wp2
  go_ret
  exact ⟨rfl,hb.out _⟩
 subst xq
 cases z with
 | false =>
  clear h
  simp only [Bool.not_false] at hE
  go_enter Try.func23,Try.ntmps23
  go_wp2
  go_ret
  exact ⟨rfl,hb.out _⟩
 | true =>
 simp only [Bool.not_true] at hE
 by_cases xlo : lo = 0
 case neg =>
  have y:=bne_yes xlo
  have y2 : (lo == 0) = false:=beq_no xlo
  clear h
  go_enter Try.func23,Try.ntmps23
  go_wp2
  go_ret
  exact ⟨rfl,hb.out _⟩
 subst xlo
 by_cases xhi : hi = 0
 case neg =>
  have y:=bne_yes xhi
  have y2 : (hi == 0) = false:=beq_no xhi
  clear h
  go_enter Try.func23,Try.ntmps23
  go_wp2
  go_ret
  exact ⟨rfl,hb.out _⟩
 subst xhi
 exact absurd (.inl ⟨.inr (.inl rfl),rfl,rfl,rfl,rfl,rfl,rfl⟩) h.out
theorem may_no8 {t g a b lo hi q : Int} {s : Nat → Bool} (w : World) (h : ¬ MayP t g 8 a b lo hi q (sameS s zset)) : No ⟨8,a,b,lo,hi,q,s⟩ t g w:=by
 unfold No
 have hb:=lhi (fun o : Obj => (Below.refl w.heap.size w).alloc (nlr _) o)
 have hE:=fun w => set_neq2 s w
 have hG:=fun p q x y w => set_guard2 p q x y w
 rw [nodV_lit]
 generalize sameS s zset = z at *
 generalize wd s 0 = s0 at *
 generalize wd s 1 = s1 at *
 generalize wd s 2 = s2 at *
 generalize wd s 3 = s3 at *
 replace h:=lhi h
 by_cases xa : a = 0
 case neg =>
  have y:=bne_yes xa
  have y2 : (a == 0) = false:=beq_no xa
  clear h
  go_enter Try.func23,Try.ntmps23
  go_wp2
  go_ret
  exact ⟨rfl,hb.out _⟩
 subst xa
 by_cases xb : b = 0
 case neg =>
  have y:=bne_yes xb
  have y2 : (b == 0) = false:=beq_no xb
  clear h
  go_enter Try.func23,Try.ntmps23
  go_wp2
  go_ret
  exact ⟨rfl,hb.out _⟩
 subst xb
 by_cases xq : q = 0
 case neg =>
  have y:=bne_yes xq
  have y2 : (q == 0) = false:=beq_no xq
  clear h
  go_enter Try.func23,Try.ntmps23
  go_wp2
  go_ret
  exact ⟨rfl,hb.out _⟩
 subst xq
 cases z with
 | false =>
  clear h
  simp only [Bool.not_false] at hE
  go_enter Try.func23,Try.ntmps23
  go_wp2
  go_ret
  exact ⟨rfl,hb.out _⟩
 | true =>
 simp only [Bool.not_true] at hE
 by_cases xlo : lo = 0
 case neg =>
  have y:=bne_yes xlo
  have y2 : (lo == 0) = false:=beq_no xlo
  clear h
  go_enter Try.func23,Try.ntmps23
  go_wp2
  go_ret
  exact ⟨rfl,hb.out _⟩
 subst xlo
 by_cases xhi : hi = 0
 case neg =>
  have y:=bne_yes xhi
  have y2 : (hi == 0) = false:=beq_no xhi
  clear h
  go_enter Try.func23,Try.ntmps23
  go_wp2
  go_ret
  exact ⟨rfl,hb.out _⟩
 subst xhi
 exact absurd (.inl ⟨.inr (.inr rfl),rfl,rfl,rfl,rfl,rfl,rfl⟩) h.out
theorem may_no1 {t g a b lo hi q : Int} {s : Nat → Bool} (w : World) (h : ¬ MayP t g 1 a b lo hi q (sameS s zset)) : No ⟨1,a,b,lo,hi,q,s⟩ t g w:=by
 unfold No
 have hb:=lhi (fun o : Obj => (Below.refl w.heap.size w).alloc (nlr _) o)
 have hE:=fun w => set_neq2 s w
 have hG:=fun p q x y w => set_guard2 p q x y w
 rw [nodV_lit]
 generalize sameS s zset = z at *
 generalize wd s 0 = s0 at *
 generalize wd s 1 = s1 at *
 generalize wd s 2 = s2 at *
 generalize wd s 3 = s3 at *
 replace h:=lhi h
 by_cases xa : a = 0
 case neg =>
  have y:=bne_yes xa
  have y2 : (a == 0) = false:=beq_no xa
  clear h
  go_enter Try.func23,Try.ntmps23
  go_wp2
  go_ret
  exact ⟨rfl,hb.out _⟩
 subst xa
 by_cases xb : b = 0
 case neg =>
  have y:=bne_yes xb
  have y2 : (b == 0) = false:=beq_no xb
  clear h
  go_enter Try.func23,Try.ntmps23
  go_wp2
  go_ret
  exact ⟨rfl,hb.out _⟩
 subst xb
 by_cases xq : q = 0
 case neg =>
  have y:=bne_yes xq
  have y2 : (q == 0) = false:=beq_no xq
  clear h
  go_enter Try.func23,Try.ntmps23
  go_wp2
  go_ret
  exact ⟨rfl,hb.out _⟩
 subst xq
 by_cases xlo : lo = 0
 case neg =>
  have y:=bne_yes xlo
  have y2 : (lo == 0) = false:=beq_no xlo
  clear h
  go_enter Try.func23,Try.ntmps23
  go_wp2
  go_ret
  exact ⟨rfl,hb.out _⟩
 subst xlo
 by_cases xhi : hi = 0
 case neg =>
  have y:=bne_yes xhi
  have y2 : (hi == 0) = false:=beq_no xhi
  clear h
  go_enter Try.func23,Try.ntmps23
  go_wp2
  go_ret
  exact ⟨rfl,hb.out _⟩
 subst xhi
 exact absurd (.inr (.inl ⟨rfl,rfl,rfl,rfl,rfl,rfl⟩)) h.out
theorem may_no2 {t g a b lo hi q : Int} {s : Nat → Bool} (w : World) (h : ¬ MayP t g 2 a b lo hi q (sameS s zset)) : No ⟨2,a,b,lo,hi,q,s⟩ t g w:=by
 unfold No
 have hb:=lhi (fun o : Obj => (Below.refl w.heap.size w).alloc (nlr _) o)
 have hE:=fun w => set_neq2 s w
 have hG:=fun p q x y w => set_guard2 p q x y w
 rw [nodV_lit]
 generalize sameS s zset = z at *
 generalize wd s 0 = s0 at *
 generalize wd s 1 = s1 at *
 generalize wd s 2 = s2 at *
 generalize wd s 3 = s3 at *
 replace h:=lhi h
 by_cases xa0 : a < 0
 case pos =>
  have y0 : ¬ 0 ≤ a:=by omega
  clear h
  go_enter Try.func23,Try.ntmps23
  go_wp2
  go_ret
  exact ⟨rfl,hb.out _⟩
 have xa0b : 0 ≤ a:=by omega
 by_cases xa1 : t ≤ a
 case pos =>
  have y0 : ¬ a < t:=by omega
  clear h
  go_enter Try.func23,Try.ntmps23
  go_wp2
  go_ret
  exact ⟨rfl,hb.out _⟩
 have xa1b : a < t:=by omega
 by_cases xb0 : b < 0
 case pos =>
  have y0 : ¬ 0 ≤ b:=by omega
  clear h
  go_enter Try.func23,Try.ntmps23
  go_wp2
  go_ret
  exact ⟨rfl,hb.out _⟩
 have xb0b : 0 ≤ b:=by omega
 by_cases xb1 : t ≤ b
 case pos =>
  have y0 : ¬ b < t:=by omega
  clear h
  go_enter Try.func23,Try.ntmps23
  go_wp2
  go_ret
  exact ⟨rfl,hb.out _⟩
 have xb1b : b < t:=by omega
 by_cases xq : q = 0
 case neg =>
  have y:=bne_yes xq
  have y2 : (q == 0) = false:=beq_no xq
  clear h
  go_enter Try.func23,Try.ntmps23
  go_wp2
  go_ret
  exact ⟨rfl,hb.out _⟩
 subst xq
 cases z with
 | false =>
  clear h
  simp only [Bool.not_false] at hE
  go_enter Try.func23,Try.ntmps23
  go_wp2
  go_ret
  exact ⟨rfl,hb.out _⟩
 | true =>
 simp only [Bool.not_true] at hE
 by_cases xlo : lo = 0
 case neg =>
  have y:=bne_yes xlo
  have y2 : (lo == 0) = false:=beq_no xlo
  clear h
  go_enter Try.func23,Try.ntmps23
  go_wp2
  go_ret
  exact ⟨rfl,hb.out _⟩
 subst xlo
 by_cases xhi : hi = 0
 case neg =>
  have y:=bne_yes xhi
  have y2 : (hi == 0) = false:=beq_no xhi
  clear h
  go_enter Try.func23,Try.ntmps23
  go_wp2
  go_ret
  exact ⟨rfl,hb.out _⟩
 subst xhi
 exact absurd (.inr (.inr (.inl ⟨.inl rfl,xa0b,xa1b,xb0b,xb1b,rfl,rfl,rfl,rfl⟩))) h.out
theorem may_no3 {t g a b lo hi q : Int} {s : Nat → Bool} (w : World) (h : ¬ MayP t g 3 a b lo hi q (sameS s zset)) : No ⟨3,a,b,lo,hi,q,s⟩ t g w:=by
 unfold No
 have hb:=lhi (fun o : Obj => (Below.refl w.heap.size w).alloc (nlr _) o)
 have hE:=fun w => set_neq2 s w
 have hG:=fun p q x y w => set_guard2 p q x y w
 rw [nodV_lit]
 generalize sameS s zset = z at *
 generalize wd s 0 = s0 at *
 generalize wd s 1 = s1 at *
 generalize wd s 2 = s2 at *
 generalize wd s 3 = s3 at *
 replace h:=lhi h
 by_cases xa0 : a < 0
 case pos =>
  have y0 : ¬ 0 ≤ a:=by omega
  clear h
  go_enter Try.func23,Try.ntmps23
  go_wp2
  go_ret
  exact ⟨rfl,hb.out _⟩
 have xa0b : 0 ≤ a:=by omega
 by_cases xa1 : t ≤ a
 case pos =>
  have y0 : ¬ a < t:=by omega
  clear h
  go_enter Try.func23,Try.ntmps23
  go_wp2
  go_ret
  exact ⟨rfl,hb.out _⟩
 have xa1b : a < t:=by omega
 by_cases xb0 : b < 0
 case pos =>
  have y0 : ¬ 0 ≤ b:=by omega
  clear h
  go_enter Try.func23,Try.ntmps23
  go_wp2
  go_ret
  exact ⟨rfl,hb.out _⟩
 have xb0b : 0 ≤ b:=by omega
 by_cases xb1 : t ≤ b
 case pos =>
  have y0 : ¬ b < t:=by omega
  clear h
  go_enter Try.func23,Try.ntmps23
  go_wp2
  go_ret
  exact ⟨rfl,hb.out _⟩
 have xb1b : b < t:=by omega
 by_cases xq : q = 0
 case neg =>
  have y:=bne_yes xq
  have y2 : (q == 0) = false:=beq_no xq
  clear h
  go_enter Try.func23,Try.ntmps23
  go_wp2
  go_ret
  exact ⟨rfl,hb.out _⟩
 subst xq
 cases z with
 | false =>
  clear h
  simp only [Bool.not_false] at hE
  go_enter Try.func23,Try.ntmps23
  go_wp2
  go_ret
  exact ⟨rfl,hb.out _⟩
 | true =>
 simp only [Bool.not_true] at hE
 by_cases xlo : lo = 0
 case neg =>
  have y:=bne_yes xlo
  have y2 : (lo == 0) = false:=beq_no xlo
  clear h
  go_enter Try.func23,Try.ntmps23
  go_wp2
  go_ret
  exact ⟨rfl,hb.out _⟩
 subst xlo
 by_cases xhi : hi = 0
 case neg =>
  have y:=bne_yes xhi
  have y2 : (hi == 0) = false:=beq_no xhi
  clear h
  go_enter Try.func23,Try.ntmps23
  go_wp2
  go_ret
  exact ⟨rfl,hb.out _⟩
 subst xhi
 exact absurd (.inr (.inr (.inl ⟨.inr rfl,xa0b,xa1b,xb0b,xb1b,rfl,rfl,rfl,rfl⟩))) h.out
theorem may_no4 {t g a b lo hi q : Int} {s : Nat → Bool} (w : World) (h : ¬ MayP t g 4 a b lo hi q (sameS s zset)) : No ⟨4,a,b,lo,hi,q,s⟩ t g w:=by
 unfold No
 have hb:=lhi (fun o : Obj => (Below.refl w.heap.size w).alloc (nlr _) o)
 have hE:=fun w => set_neq2 s w
 have hG:=fun p q x y w => set_guard2 p q x y w
 rw [nodV_lit]
 generalize sameS s zset = z at *
 generalize wd s 0 = s0 at *
 generalize wd s 1 = s1 at *
 generalize wd s 2 = s2 at *
 generalize wd s 3 = s3 at *
 replace h:=lhi h
 by_cases xa0 : a < 0
 case pos =>
  have y0 : ¬ 0 ≤ a:=by omega
  clear h
  go_enter Try.func23,Try.ntmps23
  go_wp2
  go_ret
  exact ⟨rfl,hb.out _⟩
 have xa0b : 0 ≤ a:=by omega
 by_cases xa1 : t ≤ a
 case pos =>
  have y0 : ¬ a < t:=by omega
  clear h
  go_enter Try.func23,Try.ntmps23
  go_wp2
  go_ret
  exact ⟨rfl,hb.out _⟩
 have xa1b : a < t:=by omega
 by_cases xb : b = 0
 case neg =>
  have y:=bne_yes xb
  have y2 : (b == 0) = false:=beq_no xb
  clear h
  go_enter Try.func23,Try.ntmps23
  go_wp2
  go_ret
  exact ⟨rfl,hb.out _⟩
 subst xb
 by_cases xq : q = 0
 case neg =>
  have y:=bne_yes xq
  have y2 : (q == 0) = false:=beq_no xq
  clear h
  go_enter Try.func23,Try.ntmps23
  go_wp2
  go_ret
  exact ⟨rfl,hb.out _⟩
 subst xq
 cases z with
 | false =>
  clear h
  simp only [Bool.not_false] at hE
  go_enter Try.func23,Try.ntmps23
  go_wp2
  go_ret
  exact ⟨rfl,hb.out _⟩
 | true =>
 simp only [Bool.not_true] at hE
 by_cases u1 : lo < 0
 case pos =>
  have y0 : ¬ 0 ≤ lo:=by omega
  clear h
  go_enter Try.func23,Try.ntmps23
  go_wp2
  go_ret
  exact ⟨rfl,hb.out _⟩
 have u1b : 0 ≤ lo:=by omega
 by_cases u2 : 255 < lo
 case pos =>
  have y0 : ¬ lo ≤ 255:=by omega
  clear h
  go_enter Try.func23,Try.ntmps23
  go_wp2
  go_ret
  exact ⟨rfl,hb.out _⟩
 have u2b : lo ≤ 255:=by omega
 have u3 : hi ≠ -1:=fun e => h.out (.inr (.inr (.inr (.inl ⟨rfl,xa0b,xa1b,rfl,rfl,rfl,(by unfold timesN;simp;omega)⟩))))
 have u3b : (hi == -1) = false:=beq_no u3
 by_cases u4 : hi < lo
 case pos =>
  have y0 : ¬ lo ≤ hi:=by omega
  clear h
  go_enter Try.func23,Try.ntmps23
  go_wp2
  go_ret
  exact ⟨rfl,hb.out _⟩
 have u4b : lo ≤ hi:=by omega
 have u5 : 255 < hi:=Int.lt_of_not_ge fun e => h.out (.inr (.inr (.inr (.inl ⟨rfl,xa0b,xa1b,rfl,rfl,rfl,(by unfold timesN;simp;omega)⟩))))
 have u5b : ¬ hi ≤ 255:=by omega
 clear h
 go_enter Try.func23,Try.ntmps23
 go_wp2
 go_ret
 exact ⟨rfl,hb.out _⟩
theorem may_no5 {t g a b lo hi q : Int} {s : Nat → Bool} (w : World) (h : ¬ MayP t g 5 a b lo hi q (sameS s zset)) : No ⟨5,a,b,lo,hi,q,s⟩ t g w:=by
 unfold No
 have hb:=lhi (fun o : Obj => (Below.refl w.heap.size w).alloc (nlr _) o)
 have hE:=fun w => set_neq2 s w
 have hG:=fun p q x y w => set_guard2 p q x y w
 rw [nodV_lit]
 generalize sameS s zset = z at *
 generalize wd s 0 = s0 at *
 generalize wd s 1 = s1 at *
 generalize wd s 2 = s2 at *
 generalize wd s 3 = s3 at *
 replace h:=lhi h
 by_cases xa0 : a < 0
 case pos =>
  have y0 : ¬ 0 ≤ a:=by omega
  clear h
  go_enter Try.func23,Try.ntmps23
  go_wp2
  go_ret
  exact ⟨rfl,hb.out _⟩
 have xa0b : 0 ≤ a:=by omega
 by_cases xa1 : t ≤ a
 case pos =>
  have y0 : ¬ a < t:=by omega
  clear h
  go_enter Try.func23,Try.ntmps23
  go_wp2
  go_ret
  exact ⟨rfl,hb.out _⟩
 have xa1b : a < t:=by omega
 by_cases xb : b = 0
 case neg =>
  have y:=bne_yes xb
  have y2 : (b == 0) = false:=beq_no xb
  clear h
  go_enter Try.func23,Try.ntmps23
  go_wp2
  go_ret
  exact ⟨rfl,hb.out _⟩
 subst xb
 by_cases xq0 : q < 1
 case pos =>
  have y0 : ¬ 1 ≤ q:=by omega
  clear h
  go_enter Try.func23,Try.ntmps23
  go_wp2
  go_ret
  exact ⟨rfl,hb.out _⟩
 have xq0b : 1 ≤ q:=by omega
 by_cases xq1 : g < q
 case pos =>
  have y0 : ¬ q ≤ g:=by omega
  clear h
  go_enter Try.func23,Try.ntmps23
  go_wp2
  go_ret
  exact ⟨rfl,hb.out _⟩
 have xq1b : q ≤ g:=by omega
 cases z with
 | false =>
  clear h
  simp only [Bool.not_false] at hE
  go_enter Try.func23,Try.ntmps23
  go_wp2
  go_ret
  exact ⟨rfl,hb.out _⟩
 | true =>
 simp only [Bool.not_true] at hE
 by_cases xlo : lo = 0
 case neg =>
  have y:=bne_yes xlo
  have y2 : (lo == 0) = false:=beq_no xlo
  clear h
  go_enter Try.func23,Try.ntmps23
  go_wp2
  go_ret
  exact ⟨rfl,hb.out _⟩
 subst xlo
 by_cases xhi : hi = 0
 case neg =>
  have y:=bne_yes xhi
  have y2 : (hi == 0) = false:=beq_no xhi
  clear h
  go_enter Try.func23,Try.ntmps23
  go_wp2
  go_ret
  exact ⟨rfl,hb.out _⟩
 subst xhi
 exact absurd (.inr (.inr (.inr (.inr (.inl ⟨rfl,xa0b,xa1b,rfl,xq0b,xq1b,rfl,rfl,rfl⟩))))) h.out
theorem may_no6 {t g a b lo hi q : Int} {s : Nat → Bool} (w : World) (h : ¬ MayP t g 6 a b lo hi q (sameS s zset)) : No ⟨6,a,b,lo,hi,q,s⟩ t g w:=by
 unfold No
 have hb:=lhi (fun o : Obj => (Below.refl w.heap.size w).alloc (nlr _) o)
 have hE:=fun w => set_neq2 s w
 have hG:=fun p q x y w => set_guard2 p q x y w
 rw [nodV_lit]
 generalize sameS s zset = z at *
 generalize wd s 0 = s0 at *
 generalize wd s 1 = s1 at *
 generalize wd s 2 = s2 at *
 generalize wd s 3 = s3 at *
 replace h:=lhi h
 by_cases xa : a = 0
 case neg =>
  have y:=bne_yes xa
  have y2 : (a == 0) = false:=beq_no xa
  clear h
  go_enter Try.func23,Try.ntmps23
  go_wp2
  go_ret
  exact ⟨rfl,hb.out _⟩
 subst xa
 by_cases xb : b = 0
 case neg =>
  have y:=bne_yes xb
  have y2 : (b == 0) = false:=beq_no xb
  clear h
  go_enter Try.func23,Try.ntmps23
  go_wp2
  go_ret
  exact ⟨rfl,hb.out _⟩
 subst xb
 by_cases xq0 : q < 1
 case pos =>
  have y0 : ¬ 1 ≤ q:=by omega
  clear h
  go_enter Try.func23,Try.ntmps23
  go_wp2
  go_ret
  exact ⟨rfl,hb.out _⟩
 have xq0b : 1 ≤ q:=by omega
 by_cases xq1 : g < q
 case pos =>
  have y0 : ¬ q ≤ g:=by omega
  clear h
  go_enter Try.func23,Try.ntmps23
  go_wp2
  go_ret
  exact ⟨rfl,hb.out _⟩
 have xq1b : q ≤ g:=by omega
 cases z with
 | false =>
  clear h
  simp only [Bool.not_false] at hE
  go_enter Try.func23,Try.ntmps23
  go_wp2
  go_ret
  exact ⟨rfl,hb.out _⟩
 | true =>
 simp only [Bool.not_true] at hE
 by_cases xlo : lo = 0
 case neg =>
  have y:=bne_yes xlo
  have y2 : (lo == 0) = false:=beq_no xlo
  clear h
  go_enter Try.func23,Try.ntmps23
  go_wp2
  go_ret
  exact ⟨rfl,hb.out _⟩
 subst xlo
 by_cases xhi : hi = 0
 case neg =>
  have y:=bne_yes xhi
  have y2 : (hi == 0) = false:=beq_no xhi
  clear h
  go_enter Try.func23,Try.ntmps23
  go_wp2
  go_ret
  exact ⟨rfl,hb.out _⟩
 subst xhi
 exact absurd (.inr (.inr (.inr (.inr (.inr ⟨rfl,rfl,rfl,xq0b,xq1b,rfl,rfl,rfl⟩))))) h.out
theorem may_noK {t g k a b lo hi q : Int} {s : Nat → Bool} (w : World) (h : ¬ (0 ≤ k ∧ k ≤ 8)) : No ⟨k,a,b,lo,hi,q,s⟩ t g w:=by
 unfold No
 have hb:=lhi (fun o : Obj => (Below.refl w.heap.size w).alloc (nlr _) o)
 rw [nodV_lit]
 have k2 : (k == 2) = false:=beq_no (by omega)
 have k3 : (k == 3) = false:=beq_no (by omega)
 have k5 : (k == 5) = false:=beq_no (by omega)
 have k6 : (k == 6) = false:=beq_no (by omega)
 by_cases h1 : k < 0
 · have y1 : ¬ 2 ≤ k:=by omega
   clear h
   go_enter Try.func23,Try.ntmps23
   go_wp2
   go_ret
   exact ⟨rfl,hb.out _⟩
 · have y1 : 2 ≤ k:=by omega
   have y2 : ¬ k ≤ 5:=by omega
   have y3 : 8 < k:=by omega
   clear h
   go_enter Try.func23,Try.ntmps23
   go_wp2
   go_ret
   exact ⟨rfl,hb.out _⟩
end Go.Proofs.Ytbdfhmefjfaofaa
