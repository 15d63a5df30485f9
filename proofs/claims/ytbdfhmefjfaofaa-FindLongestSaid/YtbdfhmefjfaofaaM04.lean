/- Contracts and plain facts: M04. -/
import Derived.Test.YtbdfhmefjfaofaaM03
import Derived.Deep.RegionHeld3
set_option linter.unusedVariables false
set_option linter.unusedSimpArgs false
set_option maxRecDepth 100000
set_option maxHeartbeats 32000000
namespace Go.Proofs.Ytbdfhmefjfaofaa
open Go.RowKit
def okP (t p : Int) : Bool:=decide (0 ≤ p) && decide (p < t)
noncomputable def fitsN (n : Nod) (t g : Int) : Bool :=
 (partsN n).all (okP t) && ((decide (n.kind ≠ 4) || timesN n.lo n.hi) && ((decide (n.kind ≠ 5 ∧ n.kind ≠ 6) || (decide (1 ≤ n.grp) && decide (n.grp ≤ g))) && (decide (0 ≤ n.kind) && (decide (n.kind ≤ 8) && sameN n (wantedN n)))))
theorem okP_neg {t p : Int} (h : p < 0) : okP t p = false:=by have : ¬ 0 ≤ p:=by omega
                                                              simp [okP,this]
theorem okP_big {t p : Int} (h : t ≤ p) : okP t p = false:=by have : ¬ p < t:=by omega
                                                              simp [okP,this]
theorem okP_yes {t p : Int} (h0 : 0 ≤ p) (h : p < t) : okP t p = true:=by simp [okP,h0,h]
theorem all_no {t : Int} {l : List Int} {k : Nat} (hk : k < l.length) (h : okP t (l[k]'hk) = false) : l.all (okP t) = false:=by
 rw [List.all_eq_false]
 exact ⟨_,List.getElem_mem hk,by rw [h];decide⟩
theorem all_yes {t : Int} {l : List Int} (h : ∀ k (hk : k < l.length),okP t (l[k]'hk) = true) : l.all (okP t) = true:=by
 rw [List.all_eq_true]
 intro x hx
 obtain ⟨k,hk,rfl⟩:=List.getElem_of_mem hx
 exact h k hk
theorem Held.cells10 {w : World} {B : Nat} {t : TypeId} {v0 v1 v2 v3 v4 v5 v6 v7 v8 v9 : Value} (h : Held w B t #[v0,v1,v2,v3,v4,v5,v6,v7,v8,v9]) :
    w.cell? ⟨B,0,none⟩ = some v0 ∧ w.cell? ⟨B,1,none⟩ = some v1 ∧ w.cell? ⟨B,2,none⟩ = some v2 ∧ w.cell? ⟨B,3,none⟩ = some v3 ∧ w.cell? ⟨B,4,none⟩ = some v4 ∧ w.cell? ⟨B,5,none⟩ = some v5 ∧
     w.cell? ⟨B,6,none⟩ = some v6 ∧ w.cell? ⟨B,7,none⟩ = some v7 ∧ w.cell? ⟨B,8,none⟩ = some v8 ∧ w.cell? ⟨B,9,none⟩ = some v9 :=
 ⟨h.at_ rfl,h.at_ rfl,h.at_ rfl,h.at_ rfl,h.at_ rfl,h.at_ rfl,h.at_ rfl,h.at_ rfl,h.at_ rfl,h.at_ rfl⟩
theorem fits_any (n : Nod) (t g : Int) (w : World) : Calls Try.prog 30 #[nodV n,.int .i64 t,.int .i64 g] w fun e w' => e = .returned (.bool (fitsN n t g)) ∧ Below w.heap.size w w':=by
 have hP:=lhi (fun w => parts_any n w)
 have hQ:=lhi (fun w => wanted_any n w)
 have hT:=lhi (fun w => areTimes_any n.lo n.hi w)
 have hN0:=lhi (held_new w 54 (nodC n))
 have hB0:=lhi ((Below.refl w.heap.size w).alloc (nlr _) (.cells (nodC n) 54))
 have hE:=lhi (fun w => nod_eql w n (wantedN n))
 have hG:=lhi (fun w x y => nod_guard w .eql x y n (wantedN n))
 have hF : fitsN n t g = ((partsN n).all (okP t) && ((decide (n.kind ≠ 4) || timesN n.lo n.hi) && ((decide (n.kind ≠ 5 ∧ n.kind ≠ 6) || (decide (1 ≤ n.grp) && decide (n.grp ≤ g))) && (decide (0 ≤ n.kind) && (decide (n.kind ≤ 8) && sameN n (wantedN n)))))):=rfl
 generalize fitsN n t g = r at hF
 generalize partsN n = l at *
 generalize sameN n (wantedN n) = sm at *
 generalize wantedN n = wn at *
 obtain ⟨kd,a,b,lo,hi,gr,s⟩:=n
 simp only at hF hT
 rw [show nodC ⟨kd,a,b,lo,hi,gr,s⟩ = #[.int .i64 kd,.int .i64 a,.int .i64 b,.int .i64 lo,.int .i64 hi,.int .i64 gr,.int .u64 (wd s 0 : Nat),.int .u64 (wd s 1 : Nat),.int .u64 (wd s 2 : Nat),.int .u64 (wd s 3 : Nat)] from rfl] at hN0 hB0
 rw [nodV_lit] at hP hQ hE hG ⊢
 replace hF:=lhi hF
 generalize wd s 0 = s0 at *
 generalize wd s 1 = s1 at *
 generalize wd s 2 = s2 at *
 generalize wd s 3 = s3 at *
 go_enter Try.func30,Try.ntmps30
 go_wp2_with (go_at_call 31;refine (hP.out _).mono ?_;rintro e w1 ⟨A,m,c,rfl,hm,hmc,hc2,hv,-,hb1⟩;have hml:=lhi hm;clear hm)
 have hN1:=hN0.out.keep hb1
 have hbW:=lhi (hB0.out.trans (hb1.mono hB0.out.size))
 clear hN0 hB0 hP hb1
 have c0:=hN1.at_ (i:=0) rfl
 have c1:=hN1.at_ (i:=1) rfl
 have c2':=hN1.at_ (i:=2) rfl
 have c3:=hN1.at_ (i:=3) rfl
 have c4:=hN1.at_ (i:=4) rfl
 have c5:=hN1.at_ (i:=5) rfl
 have c6:=hN1.at_ (i:=6) rfl
 have c7:=hN1.at_ (i:=7) rfl
 have c8:=hN1.at_ (i:=8) rfl
 have c9:=hN1.at_ (i:=9) rfl
 have hN:=lhi hN1
 clear hN1
 go_loop [8,12] (fun _ i => ∃ k : Nat,k ≤ m ∧ i = .int .i64 (k : Nat) ∧ Hid (∀ j (hj : j < l.length),j < k → okP t (l[j]'hj) = true)) (fun _ i => m - (intOf i).toNat)
 case atStart => exact ⟨0,by omega,rfl,lhi fun j hj h => absurd h (by omega)⟩
 case round =>
  obtain ⟨k,hk,rfl,hr⟩:=hrel
  by_cases hlt : k < m
  · have hkl : k < l.length:=by have:=hml.out;omega
    obtain ⟨ad,hA,-,hd⟩:=hv.at_ (k:=k) (by rw [List.length_map];exact hkl)
    subst hA
    rw [List.getElem_map] at hd
    have hno:=lhi (fun h => all_no (t:=t) hkl h)
    have hyes:=lhi (fun (h : okP t (l[k]'hkl) = true) j (hj : j < l.length) (hjk : j < k + 1) => show okP t (l[j]'hj) = true by
     rcases Nat.lt_or_ge j k with h1 | h1
     · exact hr.out j hj h1
     · obtain rfl : j = k:=by omega
       exact h)
    generalize l[k]'hkl = p at *
    by_cases hp0 : p < 0
    · have hf:=lhi (show r = false by rw [hF.out,hno.out (okP_neg hp0)];rfl)
      clear hno hyes hF c0 c1 c2' c3 c4 c5 c6 c7 c8 c9 hE hG hQ hT
      go_wp2
      go_ret
      exact ⟨ret_bool hf.out.symm,hbW.out⟩
    · by_cases hpt : t ≤ p
      · have hf:=lhi (show r = false by rw [hF.out,hno.out (okP_big hpt)];rfl)
        clear hno hyes hF c0 c1 c2' c3 c4 c5 c6 c7 c8 c9 hE hG hQ hT
        go_wp2
        go_ret
        exact ⟨ret_bool hf.out.symm,hbW.out⟩
      · have hy:=lhi (hyes.out (okP_yes (by omega) (by omega)))
        clear hno hyes hF c0 c1 c2' c3 c4 c5 c6 c7 c8 c9 hE hG hQ hT
        go_wp2
        go_round
        case rel => exact ⟨k + 1,by omega,by go_num,hy⟩
        case measure => simp [intOf];omega
  · have hall : l.all (okP t) = true:=all_yes fun j hj => hr.out j hj (by have:=hml.out;omega)
    replace hF:=hF.out
    rw [hall,Bool.true_and] at hF
    replace hF:=lhi hF
    clear hall hr hv hml
    obtain rfl : k = m:=by omega
    by_cases h4 : kd = 4
    · subst h4
      replace hF:=hF.out
      rw [show (decide ((4 : Int) ≠ 4) || timesN lo hi) = timesN lo hi by simp,show (decide ((4 : Int) ≠ 5 ∧ (4 : Int) ≠ 6) || (decide (1 ≤ gr) && decide (gr ≤ g))) = true by simp,show decide ((0 : Int) ≤ 4) = true by simp,show decide ((4 : Int) ≤ 8) = true by simp] at hF
      generalize timesN lo hi = tb at *
      cases tb
      · have hf:=lhi (show r = false by rw [hF];rfl)
        clear hF hE hG hQ c7 c8 c9
        go_wp2_with (go_at_call 46;refine (hT.out _).mono ?_;rintro e w2 ⟨rfl,rfl⟩)
        go_ret
        exact ⟨ret_bool hf.out.symm,hbW.out⟩
      · have hf:=lhi (show r = sm by rw [hF];simp)
        clear hF
        go_wp2_with (go_at_call 46;refine (hT.out _).mono ?_;rintro e w2 ⟨rfl,rfl⟩)
        have hE':=hE.out
        have hG':=hG.out
        have hN':=lhi hN.out.drew
        have hb':=lhi hbW.out.drew
        clear hE hG hN hbW hT c0 c1 c2' c3 c4 c5 c6 c7 c8 c9
        go_region_held3 (fun w' => w'.cell? ⟨w.heap.size,0,none⟩ = some (Value.int .i64 4) ∧ w'.cell? ⟨w.heap.size,1,none⟩ = some (.int .i64 a) ∧ w'.cell? ⟨w.heap.size,2,none⟩ = some (.int .i64 b) ∧ w'.cell? ⟨w.heap.size,3,none⟩ = some (.int .i64 lo) ∧ w'.cell? ⟨w.heap.size,4,none⟩ = some (.int .i64 hi) ∧ w'.cell? ⟨w.heap.size,5,none⟩ = some (.int .i64 gr) ∧ w'.cell? ⟨w.heap.size,6,none⟩ = some (.int .u64 (s0 : Int)) ∧ w'.cell? ⟨w.heap.size,7,none⟩ = some (.int .u64 (s1 : Int)) ∧ w'.cell? ⟨w.heap.size,8,none⟩ = some (.int .u64 (s2 : Int)) ∧ w'.cell? ⟨w.heap.size,9,none⟩ = some (.int .u64 (s3 : Int)))
         (first | exact hN'.out.cells10 | go_keep)
         (first
         | (go_at_call 47;refine (hQ.out _).mono ?_;rintro e w3 ⟨rfl,hb3⟩;replace hN':=lhi (hN'.out.keep hb3);replace hb':=lhi (hb'.out.trans (hb3.mono hb'.out.size))))
        all_goals
         go_wp2
         go_ret
         exact ⟨ret_bool (by rw [hf.out]),hb'.out⟩
    by_cases h5 : kd = 5
    · subst h5
      replace hF:=hF.out
      rw [show (decide ((5 : Int) ≠ 4) || timesN lo hi) = true by simp,show (decide ((5 : Int) ≠ 5 ∧ (5 : Int) ≠ 6) || (decide (1 ≤ gr) && decide (gr ≤ g))) = (decide (1 ≤ gr) && decide (gr ≤ g)) by simp,show decide ((0 : Int) ≤ 5) = true by simp,show decide ((5 : Int) ≤ 8) = true by simp,Bool.true_and,Bool.true_and,Bool.true_and] at hF
      by_cases hg1 : gr < 1
      · have hf:=lhi (show r = false by rw [hF,decide_eq_false (show ¬ 1 ≤ gr by omega)];rfl)
        clear hF hE hG hQ hT c7 c8 c9
        go_wp2
        go_ret
        exact ⟨ret_bool hf.out.symm,hbW.out⟩
      · by_cases hg2 : g < gr
        · have hf:=lhi (show r = false by rw [hF,decide_eq_false (show ¬ gr ≤ g by omega)];simp)
          clear hF hE hG hQ hT c7 c8 c9
          go_wp2
          go_ret
          exact ⟨ret_bool hf.out.symm,hbW.out⟩
        · have hf:=lhi (show r = sm by rw [hF,decide_eq_true (show gr ≤ g by omega),decide_eq_true (show 1 ≤ gr by omega)];rfl)
          clear hF
          go_wp2
          have hE':=hE.out
          have hG':=hG.out
          have hN':=lhi hN.out.drew
          have hb':=lhi hbW.out.drew
          clear hE hG hN hbW hT c0 c1 c2' c3 c4 c5 c6 c7 c8 c9
          go_region_held3 (fun w' => w'.cell? ⟨w.heap.size,0,none⟩ = some (Value.int .i64 5) ∧ w'.cell? ⟨w.heap.size,1,none⟩ = some (.int .i64 a) ∧ w'.cell? ⟨w.heap.size,2,none⟩ = some (.int .i64 b) ∧ w'.cell? ⟨w.heap.size,3,none⟩ = some (.int .i64 lo) ∧ w'.cell? ⟨w.heap.size,4,none⟩ = some (.int .i64 hi) ∧ w'.cell? ⟨w.heap.size,5,none⟩ = some (.int .i64 gr) ∧ w'.cell? ⟨w.heap.size,6,none⟩ = some (.int .u64 (s0 : Int)) ∧ w'.cell? ⟨w.heap.size,7,none⟩ = some (.int .u64 (s1 : Int)) ∧ w'.cell? ⟨w.heap.size,8,none⟩ = some (.int .u64 (s2 : Int)) ∧ w'.cell? ⟨w.heap.size,9,none⟩ = some (.int .u64 (s3 : Int)))
           (first | exact hN'.out.cells10 | go_keep)
           (first
           | (go_at_call 47;refine (hQ.out _).mono ?_;rintro e w3 ⟨rfl,hb3⟩;replace hN':=lhi (hN'.out.keep hb3);replace hb':=lhi (hb'.out.trans (hb3.mono hb'.out.size))))
          all_goals
           go_wp2
           go_ret
           exact ⟨ret_bool (by rw [hf.out]),hb'.out⟩
    by_cases h6 : kd = 6
    · subst h6
      replace hF:=hF.out
      rw [show (decide ((6 : Int) ≠ 4) || timesN lo hi) = true by simp,show (decide ((6 : Int) ≠ 5 ∧ (6 : Int) ≠ 6) || (decide (1 ≤ gr) && decide (gr ≤ g))) = (decide (1 ≤ gr) && decide (gr ≤ g)) by simp,show decide ((0 : Int) ≤ 6) = true by simp,show decide ((6 : Int) ≤ 8) = true by simp,Bool.true_and,Bool.true_and,Bool.true_and] at hF
      by_cases hg1 : gr < 1
      · have hf:=lhi (show r = false by rw [hF,decide_eq_false (show ¬ 1 ≤ gr by omega)];rfl)
        clear hF hE hG hQ hT c7 c8 c9
        go_wp2
        go_ret
        exact ⟨ret_bool hf.out.symm,hbW.out⟩
      · by_cases hg2 : g < gr
        · have hf:=lhi (show r = false by rw [hF,decide_eq_false (show ¬ gr ≤ g by omega)];simp)
          clear hF hE hG hQ hT c7 c8 c9
          go_wp2
          go_ret
          exact ⟨ret_bool hf.out.symm,hbW.out⟩
        · have hf:=lhi (show r = sm by rw [hF,decide_eq_true (show gr ≤ g by omega),decide_eq_true (show 1 ≤ gr by omega)];rfl)
          clear hF
          go_wp2
          have hE':=hE.out
          have hG':=hG.out
          have hN':=lhi hN.out.drew
          have hb':=lhi hbW.out.drew
          clear hE hG hN hbW hT c0 c1 c2' c3 c4 c5 c6 c7 c8 c9
          go_region_held3 (fun w' => w'.cell? ⟨w.heap.size,0,none⟩ = some (Value.int .i64 6) ∧ w'.cell? ⟨w.heap.size,1,none⟩ = some (.int .i64 a) ∧ w'.cell? ⟨w.heap.size,2,none⟩ = some (.int .i64 b) ∧ w'.cell? ⟨w.heap.size,3,none⟩ = some (.int .i64 lo) ∧ w'.cell? ⟨w.heap.size,4,none⟩ = some (.int .i64 hi) ∧ w'.cell? ⟨w.heap.size,5,none⟩ = some (.int .i64 gr) ∧ w'.cell? ⟨w.heap.size,6,none⟩ = some (.int .u64 (s0 : Int)) ∧ w'.cell? ⟨w.heap.size,7,none⟩ = some (.int .u64 (s1 : Int)) ∧ w'.cell? ⟨w.heap.size,8,none⟩ = some (.int .u64 (s2 : Int)) ∧ w'.cell? ⟨w.heap.size,9,none⟩ = some (.int .u64 (s3 : Int)))
           (first | exact hN'.out.cells10 | go_keep)
           (first
           | (go_at_call 47;refine (hQ.out _).mono ?_;rintro e w3 ⟨rfl,hb3⟩;replace hN':=lhi (hN'.out.keep hb3);replace hb':=lhi (hb'.out.trans (hb3.mono hb'.out.size))))
          all_goals
           go_wp2
           go_ret
           exact ⟨ret_bool (by rw [hf.out]),hb'.out⟩
    · have q4:=beq_no h4
      have q5:=beq_no h5
      have q6:=beq_no h6
      replace hF:=hF.out
      rw [show (decide (kd ≠ 4) || timesN lo hi) = true by simp [h4],show (decide (kd ≠ 5 ∧ kd ≠ 6) || (decide (1 ≤ gr) && decide (gr ≤ g))) = true by simp [h5,h6],Bool.true_and,Bool.true_and] at hF
      clear h4 h5 h6
      by_cases hk0 : kd < 0
      · have hf:=lhi (show r = false by rw [hF,decide_eq_false (show ¬ 0 ≤ kd by omega)];rfl)
        have g1 : decide (0 ≤ kd) = false:=decide_eq_false (by omega)
        clear hF hE hG hQ hT
        go_wp2
        go_quiet (fail)
        go_wp2
        go_ret
        exact ⟨ret_bool hf.out.symm,below_drewN hbW.out _⟩
      · by_cases hk8 : 8 < kd
        · have hf:=lhi (show r = false by rw [hF,decide_eq_false (show ¬ kd ≤ 8 by omega)];simp)
          have g1 : decide (0 ≤ kd) = true:=decide_eq_true (by omega)
          have g2 : decide (kd ≤ 8) = false:=decide_eq_false (by omega)
          clear hF hE hG hQ hT
          go_wp2
          go_quiet (fail)
          go_wp2
          go_ret
          exact ⟨ret_bool hf.out.symm,below_drewN hbW.out _⟩
        · have hf:=lhi (show r = sm by rw [hF,decide_eq_true (show 0 ≤ kd by omega),decide_eq_true (show kd ≤ 8 by omega)];rfl)
          have g1 : decide (0 ≤ kd) = true:=decide_eq_true (by omega)
          have g2 : decide (kd ≤ 8) = true:=decide_eq_true (by omega)
          clear hF
          go_wp2
          have hE':=hE.out
          have hG':=hG.out
          have hN':=lhi hN.out.drew
          have hb':=lhi hbW.out.drew
          clear hE hG hN hbW hT c0 c1 c2' c3 c4 c5 c6 c7 c8 c9
          go_region_held3 (fun w' => w'.cell? ⟨w.heap.size,0,none⟩ = some (Value.int .i64 kd) ∧ w'.cell? ⟨w.heap.size,1,none⟩ = some (.int .i64 a) ∧ w'.cell? ⟨w.heap.size,2,none⟩ = some (.int .i64 b) ∧ w'.cell? ⟨w.heap.size,3,none⟩ = some (.int .i64 lo) ∧ w'.cell? ⟨w.heap.size,4,none⟩ = some (.int .i64 hi) ∧ w'.cell? ⟨w.heap.size,5,none⟩ = some (.int .i64 gr) ∧ w'.cell? ⟨w.heap.size,6,none⟩ = some (.int .u64 (s0 : Int)) ∧ w'.cell? ⟨w.heap.size,7,none⟩ = some (.int .u64 (s1 : Int)) ∧ w'.cell? ⟨w.heap.size,8,none⟩ = some (.int .u64 (s2 : Int)) ∧ w'.cell? ⟨w.heap.size,9,none⟩ = some (.int .u64 (s3 : Int)))
           (first | exact hN'.out.cells10 | go_keep)
           (first
           | (go_at_call 47;refine (hQ.out _).mono ?_;rintro e w3 ⟨rfl,hb3⟩;replace hN':=lhi (hN'.out.keep hb3);replace hb':=lhi (hb'.out.trans (hb3.mono hb'.out.size))))
          all_goals
           go_wp2
           go_ret
           exact ⟨ret_bool (by rw [hf.out]),hb'.out⟩
end Go.Proofs.Ytbdfhmefjfaofaa
