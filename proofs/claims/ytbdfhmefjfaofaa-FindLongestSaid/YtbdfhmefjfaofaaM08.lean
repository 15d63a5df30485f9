/- Contracts and plain facts: M08. -/
import Derived.Test.YtbdfhmefjfaofaaM07
set_option linter.unusedVariables false
set_option linter.unusedSimpArgs false
set_option maxRecDepth 100000
set_option maxHeartbeats 32000000
namespace Go.Proofs.Ytbdfhmefjfaofaa
open Go.RowKit
def betS (x y : Int × Int) : Bool:=if x.1 < 0 then false else if y.1 < 0 then true else if x.1 ≠ y.1 then decide (x.1 < y.1) else decide (y.2 < x.2)
def betG (a b : Spn) : Nat → Nat → Bool
 | 0,_ => false
 | k + 1,g => if a g = b g then betG a b k (g + 1) else betS (a g) (b g)
def bet (a b : Spn) : Bool:=if (a 0).2 ≠ (b 0).2 then decide ((b 0).2 < (a 0).2) else betG a b 9 1
def GoodS (x : Int × Int) : Prop:=x.1 < 0 → x = (-1,-1)
theorem betS_irr (x : Int × Int) : betS x x = false:=by
 unfold betS
 split
 · rfl
 · simp
theorem betS_total {x y : Int × Int} (hx : GoodS x) (hy : GoodS y) (h : x ≠ y) : betS x y = true ∨ betS y x = true:=by
 obtain ⟨x1,x2⟩:=x
 obtain ⟨y1,y2⟩:=y
 unfold betS
 simp only
 by_cases h1 : x1 < 0
 · by_cases h2 : y1 < 0
   · exact absurd ((hx h1).trans (hy h2).symm) h
   · right;rw [if_neg h2,if_pos h1]
 · by_cases h2 : y1 < 0
   · left;rw [if_neg h1,if_pos h2]
   · rw [if_neg h1,if_neg h2,if_neg h2,if_neg h1]
     by_cases h3 : x1 = y1
     · subst h3
       have : x2 ≠ y2:=fun e => h (by rw [e])
       simp
       omega
     · have h4 : y1 ≠ x1:=fun e => h3 e.symm
       rw [if_pos h3,if_pos h4]
       simp
       omega
theorem betS_trans {x y z : Int × Int} (h1 : betS x y = true) (h2 : betS y z = true) : betS x z = true:=by
 obtain ⟨x1,x2⟩:=x
 obtain ⟨y1,y2⟩:=y
 obtain ⟨z1,z2⟩:=z
 unfold betS at *
 simp only at *
 by_cases a : x1 < 0
 · rw [if_pos a] at h1;cases h1
 rw [if_neg a] at h1 ⊢
 by_cases b : y1 < 0
 · rw [if_pos b] at h2;cases h2
 rw [if_neg b] at h1 h2
 by_cases c : z1 < 0
 · rw [if_pos c]
 rw [if_neg c] at h2 ⊢
 by_cases e1 : x1 = y1
 · subst e1
   rw [if_neg (by simp)] at h1
   by_cases e2 : x1 = z1
   · subst e2
     rw [if_neg (by simp)] at h2 ⊢
     simp at *;omega
   · rw [if_pos e2] at h2 ⊢
     exact h2
 · rw [if_pos e1] at h1
   by_cases e2 : y1 = z1
   · subst e2
     rw [if_pos e1]
     exact h1
   · rw [if_pos e2] at h2
     simp at h1 h2
     rw [if_pos (by omega)]
     simp;omega
theorem betG_irr (a : Spn) : ∀ k g,betG a a k g = false
 | 0,g => rfl
 | k + 1,g => by rw [betG,if_pos rfl];exact betG_irr a k (g + 1)
theorem betG_trans {a b c : Spn} : ∀ k g,betG a b k g = true → betG b c k g = true → betG a c k g = true
 | 0,g,h,_ => h
 | k + 1,g,h1,h2 => by
  rw [betG] at h1 h2 ⊢
  by_cases e1 : a g = b g
  · rw [if_pos e1] at h1
    by_cases e2 : b g = c g
    · rw [if_pos e2] at h2
      rw [if_pos (e1.trans e2)]
      exact betG_trans k _ h1 h2
    · rw [if_neg e2] at h2
      rw [if_neg (fun e => e2 (e1.symm.trans e)),e1]
      exact h2
  · rw [if_neg e1] at h1
    by_cases e2 : b g = c g
    · rw [if_neg (fun e => e1 (e.trans e2.symm)),← e2]
      exact h1
    · rw [if_neg e2] at h2
      have h3:=betS_trans h1 h2
      rw [if_neg (fun e => by rw [e,betS_irr] at h3;cases h3)]
      exact h3
theorem betG_total {a b : Spn} (ha : ∀ g,GoodS (a g)) (hb : ∀ g,GoodS (b g)) : ∀ k g,(∃ j,g ≤ j ∧ j < g + k ∧ a j ≠ b j) → betG a b k g = true ∨ betG b a k g = true
 | 0,g,⟨j,h1,h2,_⟩ => absurd h2 (by omega)
 | k + 1,g,⟨j,h1,h2,h3⟩ => by
  rw [betG,betG]
  by_cases e : a g = b g
  · rw [if_pos e,if_pos e.symm]
    refine betG_total ha hb k (g + 1) ⟨j,?_,by omega,h3⟩
    rcases Nat.lt_or_ge g j with h | h
    · exact h
    · obtain rfl : g = j:=by omega
      exact absurd e h3
  · rw [if_neg e,if_neg (fun h => e h.symm)]
    exact betS_total (ha g) (hb g) e
theorem bet_irr (a : Spn) : bet a a = false:=by unfold bet;rw [if_neg (by simp)];exact betG_irr a 9 1
theorem bet_trans {a b c : Spn} (h1 : bet a b = true) (h2 : bet b c = true) : bet a c = true:=by
 unfold bet at *
 by_cases e1 : (a 0).2 = (b 0).2
 · rw [if_neg (by simpa using e1)] at h1
   by_cases e2 : (b 0).2 = (c 0).2
   · rw [if_neg (by simpa using e2)] at h2
     rw [if_neg (by simpa using e1.trans e2)]
     exact betG_trans 9 1 h1 h2
   · rw [if_pos e2] at h2
     rw [if_pos (fun e => e2 (e1.symm.trans e)),e1]
     exact h2
 · rw [if_pos e1] at h1
   by_cases e2 : (b 0).2 = (c 0).2
   · rw [if_pos (fun e => e1 (e.trans e2.symm)),← e2]
     exact h1
   · rw [if_pos e2] at h2
     simp at h1 h2
     rw [if_pos (by omega)]
     simp;omega
theorem bet_asym {a b : Spn} (h : bet a b = true) : bet b a = false:=by
 cases h2 : bet b a with
 | false => rfl
 | true => have:=bet_trans h h2;rw [bet_irr] at this;cases this
def same10 (a b : Spn) : Prop:=∀ g,g < 10 → a g = b g
theorem bet_total {a b : Spn} (ha : ∀ g,GoodS (a g)) (hb : ∀ g,GoodS (b g)) (h0 : (a 0).1 = (b 0).1) (h : ¬ same10 a b) : bet a b = true ∨ bet b a = true:=by
 unfold bet
 by_cases e : (a 0).2 = (b 0).2
 · rw [if_neg (by simpa using e),if_neg (by simpa using e.symm)]
   refine betG_total ha hb 9 1 ?_
   apply Classical.byContradiction
   intro hn
   refine h fun g hg => ?_
   apply Classical.byContradiction
   intro hne
   cases g with
   | zero => exact hne (Prod.ext h0 e)
   | succ g => exact hn ⟨g + 1,by omega,by omega,hne⟩
 · rw [if_pos e,if_pos (fun h => e h.symm)]
   simp;omega
def bestF : Option Spn → List Spn → Option Spn
 | o,[] => o
 | none,h :: r => bestF (some h) r
 | some b,h :: r => bestF (some (if bet h b then h else b)) r
theorem bestF_mem : ∀ (l : List Spn) (b m : Spn),bestF (some b) l = some m → m = b ∨ m ∈ l
 | [],b,m,h => by rw [bestF] at h;exact .inl (Option.some.inj h).symm
 | x :: r,b,m,h => by
  rw [bestF] at h
  rcases bestF_mem r _ m h with h1 | h1
  · split at h1
    · exact .inr (by rw [h1];simp)
    · exact .inl h1
  · exact .inr (by simp [h1])
theorem bestF_some : ∀ (l : List Spn) (b : Spn),∃ m,bestF (some b) l = some m
 | [],b => ⟨b,rfl⟩
 | x :: r,b => by rw [bestF];exact bestF_some r _
theorem betG_same {a b c : Spn} : ∀ k g,(∀ j,g ≤ j → j < g + k → b j = c j) → betG a b k g = betG a c k g
 | 0,g,_ => rfl
 | k + 1,g,h => by
  rw [betG,betG,h g (nlr _) (by omega)]
  by_cases e : a g = c g
  · rw [if_pos e,if_pos e];exact betG_same k (g + 1) fun j h1 h2 => h j (by omega) (by omega)
  · rw [if_neg e,if_neg e]
theorem bet_same {a b c : Spn} (h : same10 b c) : bet a b = bet a c:=by
 unfold bet
 rw [h 0 (by omega),betG_same 9 1 fun j h1 h2 => h j (by omega)]
def Hits (i : Int) (l : List Spn) : Prop:=∀ x ∈ l,(∀ g,GoodS (x g)) ∧ (x 0).1 = i
theorem bestF_top {i : Int} : ∀ (l : List Spn) (b m : Spn),Hits i (b :: l) → bestF (some b) l = some m → bet b m = false ∧ ∀ x ∈ l,bet x m = false
 | [],b,m,_,h => by rw [bestF] at h;obtain rfl:=Option.some.inj h;exact ⟨bet_irr b,fun x hx => by cases hx⟩
 | y :: r,b,m,hh,h => by
  rw [bestF] at h
  have hm : m = b ∨ m ∈ y :: r:=by
   rcases bestF_mem r _ m h with h1 | h1
   · split at h1
     · exact .inr (by rw [h1];simp)
     · exact .inl h1
   · exact .inr (by simp [h1])
  have hgm:=hh m (by rcases hm with rfl | hm;exact List.mem_cons_self;exact List.mem_cons_of_mem _ hm)
  have hgb:=hh b (by simp)
  cases hyb : bet y b with
  | true =>
   rw [hyb,if_pos rfl] at h
   obtain ⟨h1,h2⟩:=bestF_top r y m (fun x hx => hh x (by simp at hx ⊢;rcases hx with rfl | hx;exact .inr (.inl rfl);exact .inr (.inr hx))) h
   refine ⟨?_,fun x hx => ?_⟩
   · cases hbm : bet b m with
     | false => rfl
     | true => rw [bet_trans hyb hbm] at h1;cases h1
   · rcases List.mem_cons.1 hx with rfl | hx
     · exact h1
     · exact h2 x hx
  | false =>
   rw [hyb,if_neg (by simp)] at h
   obtain ⟨h1,h2⟩:=bestF_top r b m (fun x hx => hh x (by simp at hx ⊢;rcases hx with rfl | hx;exact .inl rfl;exact .inr (.inr hx))) h
   refine ⟨h1,fun x hx => ?_⟩
   rcases List.mem_cons.1 hx with rfl | hx
   · cases hxm : bet x m with
     | false => rfl
     | true =>
      by_cases hs : same10 b m
      · rw [bet_same hs,hxm] at hyb;cases hyb
      · rcases bet_total hgb.1 hgm.1 (hgb.2.trans hgm.2.symm) hs with e | e
        · rw [e] at h1;cases h1
        · rw [bet_trans hxm e] at hyb;cases hyb
   · exact h2 x hx
theorem best_one {i : Int} {l k : List Spn} (hl : Hits i l) (hk : Hits i k) (h1 : ∀ x ∈ l,∃ y ∈ k,same10 x y) (h2 : ∀ y ∈ k,∃ x ∈ l,same10 y x) {m n : Spn} (hm : bestF none l = some m) (hn : bestF none k = some n) : same10 m n:=by
 have top : ∀ {l : List Spn} {m : Spn},Hits i l → bestF none l = some m → m ∈ l ∧ ∀ x ∈ l,bet x m = false:=fun {l m} hl h => by
  cases l with
  | nil => cases h
  | cons b r =>
   rw [bestF] at h
   obtain ⟨t1,t2⟩:=bestF_top r b m hl h
   refine ⟨?_,fun x hx => ?_⟩
   · rcases bestF_mem r b m h with rfl | h;exact List.mem_cons_self;exact List.mem_cons_of_mem _ h
   · rcases List.mem_cons.1 hx with rfl | hx
     · exact t1
     · exact t2 x hx
 obtain ⟨m1,m2⟩:=top hl hm
 obtain ⟨n1,n2⟩:=top hk hn
 obtain ⟨y,y1,y2⟩:=h1 m m1
 obtain ⟨x,x1,x2⟩:=h2 n n1
 apply Classical.byContradiction
 intro hne
 rcases bet_total (hl m m1).1 (hk n n1).1 ((hl m m1).2.trans (hk n n1).2.symm) hne with e | e
 · -- m better than n: so is y
   have e2 : bet y n = true:=by
    by_cases hs : same10 n y
    · exact absurd (fun g hg => (y2 g hg).trans (hs g hg).symm) hne
    · rcases bet_total (hk n n1).1 (hk y y1).1 ((hk n n1).2.trans (hk y y1).2.symm) hs with e3 | e3
      · rw [← bet_same y2] at e3
        rw [bet_asym e] at e3;cases e3
      · exact e3
   rw [n2 y y1] at e2;cases e2
 · have e2 : bet x m = true:=by
     by_cases hs : same10 m x
     · exact absurd (fun g hg => (hs g hg).trans (x2 g hg).symm) hne
     · rcases bet_total (hl m m1).1 (hl x x1).1 ((hl m m1).2.trans (hl x x1).2.symm) hs with e3 | e3
       · rw [← bet_same x2] at e3
         rw [bet_asym e] at e3;cases e3
       · exact e3
   rw [m2 x x1] at e2;cases e2
end Go.Proofs.Ytbdfhmefjfaofaa
