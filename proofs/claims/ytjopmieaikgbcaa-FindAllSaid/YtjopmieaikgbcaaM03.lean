/- Contracts and plain facts: M03. -/
import Derived.Test.YtjopmieaikgbcaaM02
import Derived.Deep.RegionHeld3
import Derived.Shelf.Abstract
set_option linter.unusedVariables false
set_option linter.unusedSimpArgs false
set_option maxRecDepth 100000
set_option maxHeartbeats 32000000
namespace Go.Proofs.Ytjopmieaikgbcaa
open Go.RowKit
def okP (t p : Int) : Bool:=decide (0 ≤ p) && decide (p < t)
noncomputable def fitsN (n : Nod) (t g : Int) : Bool :=
 (partsN n).all (okP t) && ((decide (n.kind ≠ 4) || timesN n.lo n.hi) && ((decide (n.kind ≠ 5 ∧ n.kind ≠ 6) || (decide (1 ≤ n.grp) && decide (n.grp ≤ g))) && (decide (0 ≤ n.kind) && (decide (n.kind ≤ 8) && sameN n (wantedN n)))))
theorem okP_neg {t p : Int} (h : p < 0) : okP t p = false:=by have : ¬ 0 ≤ p:=by omega
                                                              simp [okP,this]
theorem okP_big {t p : Int} (h : t ≤ p) : okP t p = false:=by have : ¬ p < t:=by omega
                                                              simp [okP,this]
theorem okP_yes {t p : Int} (h0 : 0 ≤ p) (h : p < t) : okP t p = true:=by simp [okP,h0,h]
theorem all_no {t : Int} {l : List Int} {k : Nat} (hk : k < l.length) (h : okP t (l[k]'hk) = false) : l.all (okP t) = false:=by
 rw [List.all_eq_false]
 exact ⟨_,List.getElem_mem hk,by rw [h];decide⟩
theorem all_yes {t : Int} {l : List Int} (h : ∀ k (hk : k < l.length),okP t (l[k]'hk) = true) : l.all (okP t) = true:=by
 rw [List.all_eq_true]
 intro x hx
 obtain ⟨k,hk,rfl⟩:=List.getElem_of_mem hx
 exact h k hk
theorem Held.cells10 {w : World} {B : Nat} {t : TypeId} {v0 v1 v2 v3 v4 v5 v6 v7 v8 v9 : Value} (h : Held w B t #[v0,v1,v2,v3,v4,v5,v6,v7,v8,v9]) :
    w.cell? ⟨B,0,none⟩ = some v0 ∧ w.cell? ⟨B,1,none⟩ = some v1 ∧ w.cell? ⟨B,2,none⟩ = some v2 ∧ w.cell? ⟨B,3,none⟩ = some v3 ∧ w.cell? ⟨B,4,none⟩ = some v4 ∧ w.cell? ⟨B,5,none⟩ = some v5 ∧
     w.cell? ⟨B,6,none⟩ = some v6 ∧ w.cell? ⟨B,7,none⟩ = some v7 ∧ w.cell? ⟨B,8,none⟩ = some v8 ∧ w.cell? ⟨B,9,none⟩ = some v9 :=
 ⟨h.at_ rfl,h.at_ rfl,h.at_ rfl,h.at_ rfl,h.at_ rfl,h.at_ rfl,h.at_ rfl,h.at_ rfl,h.at_ rfl,h.at_ rfl⟩
theorem fits_any (n : Nod) (t g : Int) (w : World) : Calls Try.prog 30 #[nodV n,.int .i64 t,.int .i64 g] w fun e w' => e = .returned (.bool (fitsN n t g)) ∧ Below w.heap.size w w':=by
 have hP:=lhi (fun w => parts_any n w)
 have hQ:=lhi (fun w => wanted_any n w)
 have hT:=lhi (fun w => areTimes_any n.lo n.hi w)
 have hN0:=lhi (held_new w 54 (nodC n))
 have hB0:=lhi ((Below.refl w.heap.size w).alloc (nlr _) (.cells (nodC n) 54))
 have hE:=lhi (fun w => nod_eql w n (wantedN n))
 have hG:=lhi (fun w x y => nod_guard w .eql x y n (wantedN n))
 have hF : fitsN n t g = ((partsN n).all (okP t) && ((decide (n.kind ≠ 4) || timesN n.lo n.hi) && ((decide (n.kind ≠ 5 ∧ n.kind ≠ 6) || (decide (1 ≤ n.grp) && decide (n.grp ≤ g))) && (decide (0 ≤ n.kind) && (decide (n.kind ≤ 8) && sameN n (wantedN n)))))):=rfl
 generalize fitsN n t g = r at hF
 generalize partsN n = l at *
 generalize sameN n (wantedN n) = sm at *
 generalize wantedN n = wn at *
 obtain ⟨kd,a,b,lo,hi,gr,s⟩:=n
 simp only at hF hT
 rw [show nodC ⟨kd,a,b,lo,hi,gr,s⟩ = #[.int .i64 kd,.int .i64 a,.int .i64 b,.int .i64 lo,.int .i64 hi,.int .i64 gr,.int .u64 (wd s 0 : Nat),.int .u64 (wd s 1 : Nat),.int .u64 (wd s 2 : Nat),.int .u64 (wd s 3 : Nat)] from rfl] at hN0 hB0
 rw [nodV_lit] at hP hQ hE hG ⊢
 replace hF:=lhi hF
 generalize wd s 0 = s0 at *
 generalize wd s 1 = s1 at *
 generalize wd s 2 = s2 at *
 generalize wd s 3 = s3 at *
 go_enter Try.func30,Try.ntmps30
 go_wp2_with (go_at_call 31;refine (hP.out _).mono ?_;rintro e w1 ⟨A,m,c,rfl,hm,hmc,hc2,hv,-,hb1⟩;have hml:=lhi hm;clear hm)
 have hN1:=hN0.out.keep hb1
 have hbW:=lhi (hB0.out.trans (hb1.mono hB0.out.size))
 clear hN0 hB0 hP hb1
 have c0:=hN1.at_ (i:=0) rfl
 have c1:=hN1.at_ (i:=1) rfl
 have c2':=hN1.at_ (i:=2) rfl
 have c3:=hN1.at_ (i:=3) rfl
 have c4:=hN1.at_ (i:=4) rfl
 have c5:=hN1.at_ (i:=5) rfl
 have c6:=hN1.at_ (i:=6) rfl
 have c7:=hN1.at_ (i:=7) rfl
 have c8:=hN1.at_ (i:=8) rfl
 have c9:=hN1.at_ (i:=9) rfl
 have hN:=lhi hN1
 clear hN1
 go_loop [8,12] (fun _ i => ∃ k : Nat,k ≤ m ∧ i = .int .i64 (k : Nat) ∧ Hid (∀ j (hj : j < l.length),j < k → okP t (l[j]'hj) = true)) (fun _ i => m - (intOf i).toNat)
 case atStart => exact ⟨0,by omega,rfl,lhi fun j hj h => absurd h (by omega)⟩
 case round =>
  obtain ⟨k,hk,rfl,hr⟩:=hrel
  by_cases hlt : k < m
  · have hkl : k < l.length:=by have:=hml.out;omega
    obtain ⟨ad,hA,-,hd⟩:=hv.at_ (k:=k) (by rw [List.length_map];exact hkl)
    subst hA
    rw [List.getElem_map] at hd
    have hno:=lhi (fun h => all_no (t:=t) hkl h)
    have hyes:=lhi (fun (h : okP t (l[k]'hkl) = true) j (hj : j < l.length) (hjk : j < k + 1) => show okP t (l[j]'hj) = true by
     rcases Nat.lt_or_ge j k with h1 | h1
     · exact hr.out j hj h1
     · obtain rfl : j = k:=by omega
       exact h)
    generalize l[k]'hkl = p at *
    by_cases hp0 : p < 0
    · have hf:=lhi (show r = false by rw [hF.out,hno.out (okP_neg hp0)];rfl)
      clear hno hyes hF c0 c1 c2' c3 c4 c5 c6 c7 c8 c9 hE hG hQ hT
      go_wp2
      go_ret
      exact ⟨ret_bool hf.out.symm,hbW.out⟩
    · by_cases hpt : t ≤ p
      · have hf:=lhi (show r = false by rw [hF.out,hno.out (okP_big hpt)];rfl)
        clear hno hyes hF c0 c1 c2' c3 c4 c5 c6 c7 c8 c9 hE hG hQ hT
        go_wp2
        go_ret
        exact ⟨ret_bool hf.out.symm,hbW.out⟩
      · have hy:=lhi (hyes.out (okP_yes (by omega) (by omega)))
        clear hno hyes hF c0 c1 c2' c3 c4 c5 c6 c7 c8 c9 hE hG hQ hT
        go_wp2
        go_round
        case rel => exact ⟨k + 1,by omega,by go_num,hy⟩
        case measure => simp [intOf];omega
  · have hall : l.all (okP t) = true:=all_yes fun j hj => hr.out j hj (by have:=hml.out;omega)
    replace hF:=hF.out
    rw [hall,Bool.true_and] at hF
    replace hF:=lhi hF
    clear hall hr hv hml
    obtain rfl : k = m:=by omega
    by_cases h4 : kd = 4
    · subst h4
      replace hF:=hF.out
      rw [show (decide ((4 : Int) ≠ 4) || timesN lo hi) = timesN lo hi by simp,show (decide ((4 : Int) ≠ 5 ∧ (4 : Int) ≠ 6) || (decide (1 ≤ gr) && decide (gr ≤ g))) = true by simp,show decide ((0 : Int) ≤ 4) = true by simp,show decide ((4 : Int) ≤ 8) = true by simp] at hF
      generalize timesN lo hi = tb at *
      cases tb
      · have hf:=lhi (show r = false by rw [hF];rfl)
        clear hF hE hG hQ c7 c8 c9
        go_wp2_with (go_at_call 46;refine (hT.out _).mono ?_;rintro e w2 ⟨rfl,rfl⟩)
        go_ret
        exact ⟨ret_bool hf.out.symm,hbW.out⟩
      · have hf:=lhi (show r = sm by rw [hF];simp)
        clear hF
        go_wp2_with (go_at_call 46;refine (hT.out _).mono ?_;rintro e w2 ⟨rfl,rfl⟩)
        have hE':=hE.out
        have hG':=hG.out
        have hN':=lhi hN.out.drew
        have hb':=lhi hbW.out.drew
        clear hE hG hN hbW hT c0 c1 c2' c3 c4 c5 c6 c7 c8 c9
        go_region_held3 (fun w' => w'.cell? ⟨w.heap.size,0,none⟩ = some (Value.int .i64 4) ∧ w'.cell? ⟨w.heap.size,1,none⟩ = some (.int .i64 a) ∧ w'.cell? ⟨w.heap.size,2,none⟩ = some (.int .i64 b) ∧ w'.cell? ⟨w.heap.size,3,none⟩ = some (.int .i64 lo) ∧ w'.cell? ⟨w.heap.size,4,none⟩ = some (.int .i64 hi) ∧ w'.cell? ⟨w.heap.size,5,none⟩ = some (.int .i64 gr) ∧ w'.cell? ⟨w.heap.size,6,none⟩ = some (.int .u64 (s0 : Int)) ∧ w'.cell? ⟨w.heap.size,7,none⟩ = some (.int .u64 (s1 : Int)) ∧ w'.cell? ⟨w.heap.size,8,none⟩ = some (.int .u64 (s2 : Int)) ∧ w'.cell? ⟨w.heap.size,9,none⟩ = some (.int .u64 (s3 : Int)))
         (first | exact hN'.out.cells10 | go_keep)
         (first
         | (go_at_call 47;refine (hQ.out _).mono ?_;rintro e w3 ⟨rfl,hb3⟩;replace hN':=lhi (hN'.out.keep hb3);replace hb':=lhi (hb'.out.trans (hb3.mono hb'.out.size))))
        all_goals
         go_wp2
         go_ret
         exact ⟨ret_bool (by rw [hf.out]),hb'.out⟩
    by_cases h5 : kd = 5
    · subst h5
      replace hF:=hF.out
      rw [show (decide ((5 : Int) ≠ 4) || timesN lo hi) = true by simp,show (decide ((5 : Int) ≠ 5 ∧ (5 : Int) ≠ 6) || (decide (1 ≤ gr) && decide (gr ≤ g))) = (decide (1 ≤ gr) && decide (gr ≤ g)) by simp,show decide ((0 : Int) ≤ 5) = true by simp,show decide ((5 : Int) ≤ 8) = true by simp,Bool.true_and,Bool.true_and,Bool.true_and] at hF
      by_cases hg1 : gr < 1
      · have hf:=lhi (show r = false by rw [hF,decide_eq_false (show ¬ 1 ≤ gr by omega)];rfl)
        clear hF hE hG hQ hT c7 c8 c9
        go_wp2
        go_ret
        exact ⟨ret_bool hf.out.symm,hbW.out⟩
      · by_cases hg2 : g < gr
        · have hf:=lhi (show r = false by rw [hF,decide_eq_false (show ¬ gr ≤ g by omega)];simp)
          clear hF hE hG hQ hT c7 c8 c9
          go_wp2
          go_ret
          exact ⟨ret_bool hf.out.symm,hbW.out⟩
        · have hf:=lhi (show r = sm by rw [hF,decide_eq_true (show gr ≤ g by omega),decide_eq_true (show 1 ≤ gr by omega)];rfl)
          clear hF
          go_wp2
          have hE':=hE.out
          have hG':=hG.out
          have hN':=lhi hN.out.drew
          have hb':=lhi hbW.out.drew
          clear hE hG hN hbW hT c0 c1 c2' c3 c4 c5 c6 c7 c8 c9
          go_region_held3 (fun w' => w'.cell? ⟨w.heap.size,0,none⟩ = some (Value.int .i64 5) ∧ w'.cell? ⟨w.heap.size,1,none⟩ = some (.int .i64 a) ∧ w'.cell? ⟨w.heap.size,2,none⟩ = some (.int .i64 b) ∧ w'.cell? ⟨w.heap.size,3,none⟩ = some (.int .i64 lo) ∧ w'.cell? ⟨w.heap.size,4,none⟩ = some (.int .i64 hi) ∧ w'.cell? ⟨w.heap.size,5,none⟩ = some (.int .i64 gr) ∧ w'.cell? ⟨w.heap.size,6,none⟩ = some (.int .u64 (s0 : Int)) ∧ w'.cell? ⟨w.heap.size,7,none⟩ = some (.int .u64 (s1 : Int)) ∧ w'.cell? ⟨w.heap.size,8,none⟩ = some (.int .u64 (s2 : Int)) ∧ w'.cell? ⟨w.heap.size,9,none⟩ = some (.int .u64 (s3 : Int)))
           (first | exact hN'.out.cells10 | go_keep)
           (first
           | (go_at_call 47;refine (hQ.out _).mono ?_;rintro e w3 ⟨rfl,hb3⟩;replace hN':=lhi (hN'.out.keep hb3);replace hb':=lhi (hb'.out.trans (hb3.mono hb'.out.size))))
          all_goals
           go_wp2
           go_ret
           exact ⟨ret_bool (by rw [hf.out]),hb'.out⟩
    by_cases h6 : kd = 6
    · subst h6
      replace hF:=hF.out
      rw [show (decide ((6 : Int) ≠ 4) || timesN lo hi) = true by simp,show (decide ((6 : Int) ≠ 5 ∧ (6 : Int) ≠ 6) || (decide (1 ≤ gr) && decide (gr ≤ g))) = (decide (1 ≤ gr) && decide (gr ≤ g)) by simp,show decide ((0 : Int) ≤ 6) = true by simp,show decide ((6 : Int) ≤ 8) = true by simp,Bool.true_and,Bool.true_and,Bool.true_and] at hF
      by_cases hg1 : gr < 1
      · have hf:=lhi (show r = false by rw [hF,decide_eq_false (show ¬ 1 ≤ gr by omega)];rfl)
        clear hF hE hG hQ hT c7 c8 c9
        go_wp2
        go_ret
        exact ⟨ret_bool hf.out.symm,hbW.out⟩
      · by_cases hg2 : g < gr
        · have hf:=lhi (show r = false by rw [hF,decide_eq_false (show ¬ gr ≤ g by omega)];simp)
          clear hF hE hG hQ hT c7 c8 c9
          go_wp2
          go_ret
          exact ⟨ret_bool hf.out.symm,hbW.out⟩
        · have hf:=lhi (show r = sm by rw [hF,decide_eq_true (show gr ≤ g by omega),decide_eq_true (show 1 ≤ gr by omega)];rfl)
          clear hF
          go_wp2
          have hE':=hE.out
          have hG':=hG.out
          have hN':=lhi hN.out.drew
          have hb':=lhi hbW.out.drew
          clear hE hG hN hbW hT c0 c1 c2' c3 c4 c5 c6 c7 c8 c9
          go_region_held3 (fun w' => w'.cell? ⟨w.heap.size,0,none⟩ = some (Value.int .i64 6) ∧ w'.cell? ⟨w.heap.size,1,none⟩ = some (.int .i64 a) ∧ w'.cell? ⟨w.heap.size,2,none⟩ = some (.int .i64 b) ∧ w'.cell? ⟨w.heap.size,3,none⟩ = some (.int .i64 lo) ∧ w'.cell? ⟨w.heap.size,4,none⟩ = some (.int .i64 hi) ∧ w'.cell? ⟨w.heap.size,5,none⟩ = some (.int .i64 gr) ∧ w'.cell? ⟨w.heap.size,6,none⟩ = some (.int .u64 (s0 : Int)) ∧ w'.cell? ⟨w.heap.size,7,none⟩ = some (.int .u64 (s1 : Int)) ∧ w'.cell? ⟨w.heap.size,8,none⟩ = some (.int .u64 (s2 : Int)) ∧ w'.cell? ⟨w.heap.size,9,none⟩ = some (.int .u64 (s3 : Int)))
           (first | exact hN'.out.cells10 | go_keep)
           (first
           | (go_at_call 47;refine (hQ.out _).mono ?_;rintro e w3 ⟨rfl,hb3⟩;replace hN':=lhi (hN'.out.keep hb3);replace hb':=lhi (hb'.out.trans (hb3.mono hb'.out.size))))
          all_goals
           go_wp2
           go_ret
           exact ⟨ret_bool (by rw [hf.out]),hb'.out⟩
    · have q4:=beq_no h4
      have q5:=beq_no h5
      have q6:=beq_no h6
      replace hF:=hF.out
      rw [show (decide (kd ≠ 4) || timesN lo hi) = true by simp [h4],show (decide (kd ≠ 5 ∧ kd ≠ 6) || (decide (1 ≤ gr) && decide (gr ≤ g))) = true by simp [h5,h6],Bool.true_and,Bool.true_and] at hF
      clear h4 h5 h6
      by_cases hk0 : kd < 0
      · have hf:=lhi (show r = false by rw [hF,decide_eq_false (show ¬ 0 ≤ kd by omega)];rfl)
        have g1 : decide (0 ≤ kd) = false:=decide_eq_false (by omega)
        clear hF hE hG hQ hT
        go_wp2
        go_quiet (fail)
        go_wp2
        go_ret
        exact ⟨ret_bool hf.out.symm,below_drewN hbW.out _⟩
      · by_cases hk8 : 8 < kd
        · have hf:=lhi (show r = false by rw [hF,decide_eq_false (show ¬ kd ≤ 8 by omega)];simp)
          have g1 : decide (0 ≤ kd) = true:=decide_eq_true (by omega)
          have g2 : decide (kd ≤ 8) = false:=decide_eq_false (by omega)
          clear hF hE hG hQ hT
          go_wp2
          go_quiet (fail)
          go_wp2
          go_ret
          exact ⟨ret_bool hf.out.symm,below_drewN hbW.out _⟩
        · have hf:=lhi (show r = sm by rw [hF,decide_eq_true (show 0 ≤ kd by omega),decide_eq_true (show kd ≤ 8 by omega)];rfl)
          have g1 : decide (0 ≤ kd) = true:=decide_eq_true (by omega)
          have g2 : decide (kd ≤ 8) = true:=decide_eq_true (by omega)
          clear hF
          go_wp2
          have hE':=hE.out
          have hG':=hG.out
          have hN':=lhi hN.out.drew
          have hb':=lhi hbW.out.drew
          clear hE hG hN hbW hT c0 c1 c2' c3 c4 c5 c6 c7 c8 c9
          go_region_held3 (fun w' => w'.cell? ⟨w.heap.size,0,none⟩ = some (Value.int .i64 kd) ∧ w'.cell? ⟨w.heap.size,1,none⟩ = some (.int .i64 a) ∧ w'.cell? ⟨w.heap.size,2,none⟩ = some (.int .i64 b) ∧ w'.cell? ⟨w.heap.size,3,none⟩ = some (.int .i64 lo) ∧ w'.cell? ⟨w.heap.size,4,none⟩ = some (.int .i64 hi) ∧ w'.cell? ⟨w.heap.size,5,none⟩ = some (.int .i64 gr) ∧ w'.cell? ⟨w.heap.size,6,none⟩ = some (.int .u64 (s0 : Int)) ∧ w'.cell? ⟨w.heap.size,7,none⟩ = some (.int .u64 (s1 : Int)) ∧ w'.cell? ⟨w.heap.size,8,none⟩ = some (.int .u64 (s2 : Int)) ∧ w'.cell? ⟨w.heap.size,9,none⟩ = some (.int .u64 (s3 : Int)))
           (first | exact hN'.out.cells10 | go_keep)
           (first
           | (go_at_call 47;refine (hQ.out _).mono ?_;rintro e w3 ⟨rfl,hb3⟩;replace hN':=lhi (hN'.out.keep hb3);replace hb':=lhi (hb'.out.trans (hb3.mono hb'.out.size))))
          all_goals
           go_wp2
           go_ret
           exact ⟨ret_bool (by rw [hf.out]),hb'.out⟩
def onceL (l : List Int) : Bool:=l.all fun x => decide (x = 1)
theorem onceL_no {l : List Int} {k : Nat} (hk : k < l.length) (h : l[k]'hk ≠ 1) : onceL l = false:=by
 unfold onceL
 rw [List.all_eq_false]
 exact ⟨_,List.getElem_mem hk,by simpa using h⟩
theorem onceL_yes {l : List Int} (h : ∀ k (hk : k < l.length),l[k]'hk = 1) : onceL l = true:=by
 unfold onceL
 rw [List.all_eq_true]
 intro x hx
 obtain ⟨k,hk,rfl⟩:=List.getElem_of_mem hx
 simpa using h k hk
theorem notOne_any (x : Int) (w : World) : Calls Try.prog 49 #[.int .i64 x] w fun e w' => e = .returned (.bool (x != 1)) ∧ w = w':=by
 go_enter Try.func49,Try.ntmps49
 go_wp2
 go_ret
 exact ⟨rfl,rfl⟩
def IdxRet (l : List Int) (w : World) (e : Ending) (w' : World) : Prop:=∃ z : Int,e = .returned (.int .i64 z) ∧ decide (0 ≤ z) = !onceL l ∧ w = w'
theorem IdxRet.mk {l : List Int} {w w' : World} {z : Int} (h : decide (0 ≤ z) = !onceL l) (hw : w = w') : IdxRet l w (.returned (.int .i64 z)) w':=⟨z,rfl,h,hw⟩
theorem indexNot_any (A : Option Addr) (n c : Nat) (l : List Int) (B : Nat) (w : World) (hn : n = l.length) (hnc : n ≤ c) (hm : c ≤ maxLen) (h : Vals w B A (l.map (Value.int .i64))) :
    Calls Try.prog 53 #[.slice A n c,.func (.func 49) #[] #[]] w (IdxRet l w):=by
 unfold maxLen at hm
 have eg : ∀ args w,(callFunc 49 args).run Try.prog w = .ok (.enter 49 args) w:=enters_of Try.func49 (by kernel_rfl) rfl
 have hH:=lhi hn
 clear hn
 go_enter Try.func53,Try.ntmps53
 go_wp2
 go_loop [5,8] (fun _ i => ∃ k : Nat,k ≤ n ∧ i = .int .i64 (k : Nat) ∧ Hid (∀ j (hj : j < l.length),j < k → l[j]'hj = 1)) (fun _ i => n - (intOf i).toNat)
 case atStart => exact ⟨0,by omega,rfl,lhi fun j hj h => absurd h (by omega)⟩
 case round =>
  obtain ⟨k,hk,rfl,hr⟩:=hrel
  by_cases hlt : k < n
  · have hkl : k < l.length:=by have:=hH.out;omega
    obtain ⟨ad,hA,-,hd⟩:=h.at_ (k:=k) (by rw [List.length_map];exact hkl)
    subst hA
    rw [List.getElem_map] at hd
    by_cases he : l[k]'hkl = 1
    · have hN:=lhi (show ∀ j (hj : j < l.length),j < k + 1 → l[j]'hj = 1 from fun j hj hl => by
        rcases Nat.lt_or_ge j k with h1 | h1
        · exact hr.out j hj h1
        · obtain rfl : j = k:=by omega
          exact he)
      rw [he] at hd
      clear he
      have hS:=lhi (notOne_any 1 w)
      go_wp2_with (go_at_fn 49;refine (hS.out).mono ?_;rintro e w' ⟨rfl,rfl⟩)
      go_round
      case rel => exact ⟨k + 1,by omega,by go_num,hN⟩
      case measure => simp [intOf];omega
    · have hP:=lhi (onceL_no hkl he)
      have hS:=lhi (show Calls Try.prog 49 #[.int .i64 (l[k]'hkl)] w fun e w' => e = .returned (.bool true) ∧ w = w' by
       have:=notOne_any (l[k]'hkl) w
       rw [show (l[k]'hkl != 1) = true by rw [bne_iff_ne];exact he] at this;exact this)
      generalize l[k]'hkl = x at *
      clear he
      go_wp2_with (go_at_fn 49;refine (hS.out).mono ?_;rintro e w' ⟨rfl,rfl⟩)
      go_ret
      exact IdxRet.mk (by rw [hP.out];simp) rfl
  · obtain rfl : k = n:=by omega
    go_wp2
    go_ret
    exact IdxRet.mk (by rw [onceL_yes fun j hj => hr.out j hj (by have:=hH.out;omega)];decide) rfl
theorem containsNot_any (A : Option Addr) (n c : Nat) (l : List Int) (B : Nat) (w : World) (hn : n = l.length) (hnc : n ≤ c) (hm : c ≤ maxLen) (h : Vals w B A (l.map (Value.int .i64))) :
    Calls Try.prog 48 #[.slice A n c,.func (.func 49) #[] #[]] w fun e w' => e = .returned (.bool (!onceL l)) ∧ w = w':=by
 have hI:=lhi (indexNot_any A n c l B w hn hnc hm h)
 clear hn h hnc hm
 go_enter Try.func48,Try.ntmps48
 go_wp2_with (go_at_call 53;refine (hI.out).mono ?_;rintro e w' ⟨z,rfl,hz,rfl⟩;have hz':=lhi hz;clear hz)
 go_ret
 exact ⟨ret_bool hz'.out,rfl⟩
theorem allOnce_any (A : Option Addr) (n c : Nat) (l : List Int) (B : Nat) (w : World) (hn : n = l.length) (hnc : n ≤ c) (hm : c ≤ maxLen) (h : Vals w B A (l.map (Value.int .i64))) :
    Calls Try.prog 32 #[.slice A n c] w fun e w' => e = .returned (.bool (onceL l)) ∧ w = w':=by
 have hI:=lhi (containsNot_any A n c l B w hn hnc hm h)
 clear hn h hnc hm
 generalize onceL l = b at *
 go_enter Try.func32,Try.ntmps32
 go_wp2_with (go_at_call 48;refine (hI.out).mono ?_;rintro e w' ⟨rfl,rfl⟩)
 go_ret
 exact ⟨ret_bool (by simp),rfl⟩
def rowC (m : Nat) (f : Nat → Int) : Array Value:=((List.range m).map fun i => Value.int .i64 (f i)).toArray
theorem rowC_get (m : Nat) (f : Nat → Int) (i : Nat) (h : i < m) : (rowC m f)[i]? = some (.int .i64 (f i)):=by
 unfold rowC
 rw [List.getElem?_toArray,List.getElem?_map,List.getElem?_range h];rfl
theorem rowC_size (m : Nat) (f : Nat → Int) : (rowC m f).size = m:=by simp [rowC]
theorem rowC_set (m : Nat) (f : Nat → Int) (p : Nat) (x : Int) : (rowC m f).setIfInBounds p (.int .i64 x) = rowC m (fun i => if i = p then x else f i):=by
 apply Array.ext_getElem?
 intro i
 rw [Array.getElem?_setIfInBounds]
 by_cases hi : p = i
 · subst hi
   rw [if_pos rfl,rowC_size]
   by_cases hp : p < m
   · rw [if_pos hp,rowC_get _ _ _ hp];simp
   · rw [if_neg hp,Array.getElem?_eq_none (by rw [rowC_size];omega)]
 · rw [if_neg hi]
   by_cases hl : i < m
   · have : ¬ i = p:=fun e => hi e.symm
     rw [rowC_get _ _ _ hl,rowC_get _ _ _ hl];simp [this]
   · rw [Array.getElem?_eq_none (by rw [rowC_size];omega),Array.getElem?_eq_none (by rw [rowC_size];omega)]
theorem rowC_zero (m : Nat) : (madeCells #[.int .i64 0] m) = rowC m (fun _ => 0):=by
 apply Array.toList_inj.1
 rw [toList_madeCells_one]
 simp [rowC,List.map_const']
theorem int_info : (Try.prog.info? 3).map (fun i => (i.zero,i.size,i.bytes)) = some (some (.int .i64 0),1,8):=by kernel_rfl
theorem make_ints (m : Nat) (h : m ≤ 1000000) (w : World) :
    (Instr.makeSlice 59 (.int .i64 (m : Int)) (.int .i64 (m : Int))).run Try.prog w = .ok (.slice (some ⟨w.heap.size,0,none⟩) m m) (w.alloc (.cells (rowC m (fun _ => 0)) 3)):=by
 obtain ⟨i,hi,hh⟩:=Option.map_eq_some_iff.1 int_info
 simp only [Prod.mk.injEq] at hh
 obtain ⟨h1,h2,h3⟩:=hh
 have hr:=run_make (P:=Try.prog) w 59 3 i (.int .i64 0) Try.underlying59 hi h1 .i64 .i64 (m : Int) (m : Int) (by omega) (Int.le_refl _) (by rw [h3];omega) (by omega)
 rw [hr,h2]
 simp only [Int.toNat_natCast,Nat.mul_one]
 rw [show (Value.int .i64 0).cells = #[.int .i64 0] from rfl,rowC_zero]
theorem Held.rowVals {w : World} {g m : Nat} {t : TypeId} {f : Nat → Int} (h : Held w g t (rowC m f)) (k : Nat) (hk : k ≤ m) : Vals w (g + 1) (some ⟨g,0,none⟩) (((List.range k).map f).map (Value.int .i64)):=by
 intro j hj
 have hj' : j < k:=by simpa using hj
 refine ⟨_,rfl,Nat.lt_succ_self _,?_⟩
 rw [add_zero_off,h.at_ (rowC_get m f j (by omega))]
 simp
theorem Held.rowVals1 {w : World} {g m : Nat} {t : TypeId} {f : Nat → Int} (h : Held w g t (rowC (m + 1) f)) : Vals w (g + 1) (some ⟨g,1,none⟩) (((List.range m).map fun i => f (i + 1)).map (Value.int .i64)):=by
 intro j hj
 have hj' : j < m:=by simpa using hj
 refine ⟨_,rfl,Nat.lt_succ_self _,?_⟩
 rw [Addr.add_mid,Nat.add_comm,h.at_ (rowC_get (m + 1) f (j + 1) (by omega))]
 simp
def cntI (l : List Int) (i : Nat) : Int:=(l.countP (fun x => decide (x = (i : Int))) : Nat)
theorem cntI_snoc (l : List Int) (p : Nat) (i : Nat) : cntI (l ++ [(p : Int)]) i = if i = p then cntI l p + 1 else cntI l i:=by
 unfold cntI
 rw [List.countP_append]
 by_cases h : i = p
 · subst h;simp
 · have : ¬ (p : Int) = (i : Int):=by omega
   simp [h,this]
theorem cntI_le (l : List Int) (i : Nat) : 0 ≤ cntI l i ∧ cntI l i ≤ l.length:=by
 unfold cntI
 have:=List.countP_le_length (p:=fun x => decide (x = (i : Int))) (l:=l)
 omega
def usesN (ns : List Nod) : Nat → Int:=cntI (ns.flatMap partsN)
def grpsN (ns : List Nod) : Nat → Int:=cntI ((ns.filter fun n => decide (n.kind = 5)).map Nod.grp)
theorem partsN_len (n : Nod) : (partsN n).length ≤ 2:=by unfold partsN;split <;> (try split) <;> simp
theorem flat_len (ns : List Nod) : (ns.flatMap partsN).length ≤ 2 * ns.length:=by
 induction ns with
 | nil => simp
 | cons n ns ih => have:=partsN_len n;simp only [List.flatMap_cons,lla,List.length_cons];omega
theorem grp_len (ns : List Nod) : ((ns.filter fun n => decide (n.kind = 5)).map Nod.grp).length ≤ ns.length:=by
 rw [List.length_map];exact List.length_filter_le _ _
noncomputable def rightN (ns : List Nod) (g : Int) : Bool :=
 (decide (1 ≤ ns.length) && decide (ns.length ≤ 1000) && decide (0 ≤ g) && decide (g ≤ 9)) &&
  (@decide (∀ k (hk : k < ns.length),fitsN (ns[k]'hk) (k : Int) g = true) (Classical.propDecidable _) &&
  (onceL ((List.range (ns.length - 1)).map (usesN ns)) && onceL ((List.range g.toNat).map fun i => grpsN ns (i + 1))))
theorem rightN_size {ns : List Nod} {g : Int} (h : ¬ (1 ≤ ns.length ∧ ns.length ≤ 1000 ∧ 0 ≤ g ∧ g ≤ 9)) : rightN ns g = false:=by
 unfold rightN
 have : (decide (1 ≤ ns.length) && decide (ns.length ≤ 1000) && decide (0 ≤ g) && decide (g ≤ 9)) = false:=by
  rw [Bool.eq_false_iff]
  intro e
  simp only [Bool.and_eq_true,decide_eq_true_eq] at e
  exact h ⟨e.1.1.1,e.1.1.2,e.1.2,e.2⟩
 rw [this];rfl
theorem rightN_fits {ns : List Nod} {g : Int} {k : Nat} (hk : k < ns.length) (h : fitsN (ns[k]'hk) (k : Int) g = false) : rightN ns g = false:=by
 unfold rightN
 have : @decide (∀ k (hk : k < ns.length),fitsN (ns[k]'hk) (k : Int) g = true) (Classical.propDecidable _) = false:=by
  refine @decide_eq_false _ (Classical.propDecidable _) fun e => ?_
  rw [e k hk] at h;cases h
 rw [this];simp
theorem rightN_end {ns : List Nod} {g : Int} (h : 1 ≤ ns.length ∧ ns.length ≤ 1000 ∧ 0 ≤ g ∧ g ≤ 9) (hf : ∀ k (hk : k < ns.length),fitsN (ns[k]'hk) (k : Int) g = true) :
    rightN ns g = (onceL ((List.range (ns.length - 1)).map (usesN ns)) && onceL ((List.range g.toNat).map fun i => grpsN ns (i + 1))):=by
 unfold rightN
 rw [@decide_eq_true _ (Classical.propDecidable _) hf,decide_eq_true h.1,decide_eq_true h.2.1,decide_eq_true h.2.2.1,decide_eq_true h.2.2.2];simp
theorem fits_part {n : Nod} {t g p : Int} (h : fitsN n t g = true) (hp : p ∈ partsN n) : 0 ≤ p ∧ p < t:=by
 unfold fitsN at h
 rw [Bool.and_eq_true,List.all_eq_true] at h
 have:=h.1 p hp
 simpa [okP] using this
theorem fits_grp {n : Nod} {t g : Int} (h : fitsN n t g = true) (hk : n.kind = 5) : 1 ≤ n.grp ∧ n.grp ≤ g:=by
 unfold fitsN at h
 simp only [Bool.and_eq_true,Bool.or_eq_true,decide_eq_true_eq] at h
 rcases h.2.2.1 with h1 | h1
 · exact absurd hk h1.1
 · exact h1
theorem right_small (A : Option Addr) (n c : Nat) (ns : List Nod) (g : Int) (w : World) (hn : n = ns.length) (hm : n ≤ maxLen) (h : ¬ (1 ≤ ns.length ∧ ns.length ≤ 1000 ∧ 0 ≤ g ∧ g ≤ 9)) :
    Calls Try.prog 21 #[.agg #[.slice A n c,.int .i64 g]] w fun e w' => e = .returned (.bool false) ∧ Below w.heap.size w w':=by
 unfold maxLen at hm
 have hb:=lhi ((Below.refl w.heap.size w).alloc (nlr _) (.cells #[.slice A n c,.int .i64 g] 24))
 rw [← hn] at h
 clear hn
 by_cases h1 : n < 1
 · clear h
   go_enter Try.func21,Try.ntmps21
   go_wp2
   go_ret
   exact ⟨rfl,hb.out⟩
 by_cases h2 : 1000 < n
 · clear h
   go_enter Try.func21,Try.ntmps21
   go_wp2
   go_ret
   exact ⟨rfl,hb.out⟩
 by_cases h3 : g < 0
 · clear h
   go_enter Try.func21,Try.ntmps21
   go_wp2
   go_ret
   exact ⟨rfl,hb.out⟩
 by_cases h4 : 9 < g
 · clear h
   go_enter Try.func21,Try.ntmps21
   go_wp2
   go_ret
   exact ⟨rfl,hb.out⟩
 · exact absurd ⟨by omega,by omega,by omega,by omega⟩ h
end Go.Proofs.Ytjopmieaikgbcaa
