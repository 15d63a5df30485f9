/- Contracts and plain facts: M10. -/
import Derived.Test.YtonjnagcdnmcpaaGreatDoorM09
import Derived.Deep.AppendLies
import Derived.Deep.RegionLaw
set_option linter.unusedVariables false
set_option linter.unusedSimpArgs false
set_option maxRecDepth 100000
set_option maxHeartbeats 32000000
namespace Go.Proofs.YtonjnagcdnmcpaaGreatDoor
open Go.RowKit
def okP (t p : Int) : Bool:=decide (0 ≤ p) && decide (p < t)
noncomputable def fitsN (n : Nod) (t g : Int) : Bool :=
 (partsN n).all (okP t) && ((decide (n.kind ≠ 4) || timesN n.lo n.hi) && ((decide (n.kind ≠ 5 ∧ n.kind ≠ 6) || (decide (1 ≤ n.grp) && decide (n.grp ≤ g))) && (decide (0 ≤ n.kind) && (decide (n.kind ≤ 8) && sameN n (wantedN n)))))
theorem okP_neg {t p : Int} (h : p < 0) : okP t p = false:=by have : ¬ 0 ≤ p:=by omega
                                                              simp [okP,this]
theorem okP_big {t p : Int} (h : t ≤ p) : okP t p = false:=by have : ¬ p < t:=by omega
                                                              simp [okP,this]
theorem okP_yes {t p : Int} (h0 : 0 ≤ p) (h : p < t) : okP t p = true:=by simp [okP,h0,h]
theorem all_no {t : Int} {l : List Int} {k : Nat} (hk : k < l.length) (h : okP t (l[k]'hk) = false) : l.all (okP t) = false:=by
 rw [List.all_eq_false]
 exact ⟨_,List.getElem_mem hk,by rw [h];decide⟩
theorem all_yes {t : Int} {l : List Int} (h : ∀ k (hk : k < l.length),okP t (l[k]'hk) = true) : l.all (okP t) = true:=by
 rw [List.all_eq_true]
 intro x hx
 obtain ⟨k,hk,rfl⟩:=List.getElem_of_mem hx
 exact h k hk
theorem Held.cells10 {w : World} {B : Nat} {t : TypeId} {v0 v1 v2 v3 v4 v5 v6 v7 v8 v9 : Value} (h : Held w B t #[v0,v1,v2,v3,v4,v5,v6,v7,v8,v9]) :
    w.cell? ⟨B,0,none⟩ = some v0 ∧ w.cell? ⟨B,1,none⟩ = some v1 ∧ w.cell? ⟨B,2,none⟩ = some v2 ∧ w.cell? ⟨B,3,none⟩ = some v3 ∧ w.cell? ⟨B,4,none⟩ = some v4 ∧ w.cell? ⟨B,5,none⟩ = some v5 ∧
     w.cell? ⟨B,6,none⟩ = some v6 ∧ w.cell? ⟨B,7,none⟩ = some v7 ∧ w.cell? ⟨B,8,none⟩ = some v8 ∧ w.cell? ⟨B,9,none⟩ = some v9 :=
 ⟨h.at_ rfl,h.at_ rfl,h.at_ rfl,h.at_ rfl,h.at_ rfl,h.at_ rfl,h.at_ rfl,h.at_ rfl,h.at_ rfl,h.at_ rfl⟩
theorem fits_any (n : Nod) (t g : Int) (w : World) : Calls Tryz.prog 34 #[nodV n,.int .i64 t,.int .i64 g] w fun e w' => e = .returned (.bool (fitsN n t g)) ∧ Below w.heap.size w w':=by
 have hP:=lhi (fun w => parts_any n w)
 have hQ:=lhi (fun w => wanted_any n w)
 have hT:=lhi (fun w => areTimes_any n.lo n.hi w)
 have hN0:=lhi (held_new w 43 (nodC n))
 have hB0:=lhi ((Below.refl w.heap.size w).alloc (nlr _) (.cells (nodC n) 43))
 have hE:=lhi (fun w => nod_eql w n (wantedN n))
 have hG:=lhi (fun w x y => nod_guard w .eql x y n (wantedN n))
 have hF : fitsN n t g = ((partsN n).all (okP t) && ((decide (n.kind ≠ 4) || timesN n.lo n.hi) && ((decide (n.kind ≠ 5 ∧ n.kind ≠ 6) || (decide (1 ≤ n.grp) && decide (n.grp ≤ g))) && (decide (0 ≤ n.kind) && (decide (n.kind ≤ 8) && sameN n (wantedN n)))))):=rfl
 generalize fitsN n t g = r at hF
 generalize partsN n = l at *
 generalize sameN n (wantedN n) = sm at *
 generalize wantedN n = wn at *
 obtain ⟨kd,a,b,lo,hi,gr,s⟩:=n
 simp only at hF hT
 rw [show nodC ⟨kd,a,b,lo,hi,gr,s⟩ = #[.int .i64 kd,.int .i64 a,.int .i64 b,.int .i64 lo,.int .i64 hi,.int .i64 gr,.int .u64 (wd s 0 : Nat),.int .u64 (wd s 1 : Nat),.int .u64 (wd s 2 : Nat),.int .u64 (wd s 3 : Nat)] from rfl] at hN0 hB0
 rw [nodV_lit] at hP hQ hE hG ⊢
 replace hF:=lhi hF
 generalize wd s 0 = s0 at *
 generalize wd s 1 = s1 at *
 generalize wd s 2 = s2 at *
 generalize wd s 3 = s3 at *
 go_enter Tryz.func34,Tryz.ntmps34
 go_wp2_with (go_at_call 35;refine (hP.out _).mono ?_;rintro e w1 ⟨A,m,c,rfl,hm,hmc,hc2,hv,-,hb1⟩;have hml:=lhi hm;clear hm)
 have hN1:=hN0.out.keep hb1
 have hbW:=lhi (hB0.out.trans (hb1.mono hB0.out.size))
 clear hN0 hB0 hP hb1
 have c0:=hN1.at_ (i:=0) rfl
 have c1:=hN1.at_ (i:=1) rfl
 have c2':=hN1.at_ (i:=2) rfl
 have c3:=hN1.at_ (i:=3) rfl
 have c4:=hN1.at_ (i:=4) rfl
 have c5:=hN1.at_ (i:=5) rfl
 have c6:=hN1.at_ (i:=6) rfl
 have c7:=hN1.at_ (i:=7) rfl
 have c8:=hN1.at_ (i:=8) rfl
 have c9:=hN1.at_ (i:=9) rfl
 have hN:=lhi hN1
 clear hN1
 go_loop [8,12] (fun _ i => ∃ k : Nat,k ≤ m ∧ i = .int .i64 (k : Nat) ∧ Hid (∀ j (hj : j < l.length),j < k → okP t (l[j]'hj) = true)) (fun _ i => m - (intOf i).toNat)
 case atStart => exact ⟨0,by omega,rfl,lhi fun j hj h => absurd h (by omega)⟩
 case round =>
  obtain ⟨k,hk,rfl,hr⟩:=hrel
  by_cases hlt : k < m
  · have hkl : k < l.length:=by have:=hml.out;omega
    obtain ⟨ad,hA,-,hd⟩:=hv.at_ (k:=k) (by rw [List.length_map];exact hkl)
    subst hA
    rw [List.getElem_map] at hd
    have hno:=lhi (fun h => all_no (t:=t) hkl h)
    have hyes:=lhi (fun (h : okP t (l[k]'hkl) = true) j (hj : j < l.length) (hjk : j < k + 1) => show okP t (l[j]'hj) = true by
     rcases Nat.lt_or_ge j k with h1 | h1
     · exact hr.out j hj h1
     · obtain rfl : j = k:=by omega
       exact h)
    generalize l[k]'hkl = p at *
    by_cases hp0 : p < 0
    · have hf:=lhi (show r = false by rw [hF.out,hno.out (okP_neg hp0)];rfl)
      clear hno hyes hF c0 c1 c2' c3 c4 c5 c6 c7 c8 c9 hE hG hQ hT
      go_wp2
      go_ret
      exact ⟨ret_bool hf.out.symm,hbW.out⟩
    · by_cases hpt : t ≤ p
      · have hf:=lhi (show r = false by rw [hF.out,hno.out (okP_big hpt)];rfl)
        clear hno hyes hF c0 c1 c2' c3 c4 c5 c6 c7 c8 c9 hE hG hQ hT
        go_wp2
        go_ret
        exact ⟨ret_bool hf.out.symm,hbW.out⟩
      · have hy:=lhi (hyes.out (okP_yes (by omega) (by omega)))
        clear hno hyes hF c0 c1 c2' c3 c4 c5 c6 c7 c8 c9 hE hG hQ hT
        go_wp2
        go_round
        case rel => exact ⟨k + 1,by omega,by go_num,hy⟩
        case measure => simp [intOf];omega
  · have hall : l.all (okP t) = true:=all_yes fun j hj => hr.out j hj (by have:=hml.out;omega)
    replace hF:=hF.out
    rw [hall,Bool.true_and] at hF
    replace hF:=lhi hF
    clear hall hr hv hml
    obtain rfl : k = m:=by omega
    by_cases h4 : kd = 4
    · subst h4
      replace hF:=hF.out
      rw [show (decide ((4 : Int) ≠ 4) || timesN lo hi) = timesN lo hi by simp,show (decide ((4 : Int) ≠ 5 ∧ (4 : Int) ≠ 6) || (decide (1 ≤ gr) && decide (gr ≤ g))) = true by simp,show decide ((0 : Int) ≤ 4) = true by simp,show decide ((4 : Int) ≤ 8) = true by simp] at hF
      generalize timesN lo hi = tb at *
      cases tb
      · have hf:=lhi (show r = false by rw [hF];rfl)
        clear hF hE hG hQ c7 c8 c9
        go_wp2_with (go_at_call 55;refine (hT.out _).mono ?_;rintro e w2 ⟨rfl,rfl⟩)
        go_ret
        exact ⟨ret_bool hf.out.symm,hbW.out⟩
      · have hf:=lhi (show r = sm by rw [hF];simp)
        clear hF
        go_wp2_with (go_at_call 55;refine (hT.out _).mono ?_;rintro e w2 ⟨rfl,rfl⟩)
        have hE':=hE.out
        have hG':=hG.out
        have hN':=lhi hN.out.drew
        have hb':=lhi hbW.out.drew
        clear hE hG hN hbW hT c0 c1 c2' c3 c4 c5 c6 c7 c8 c9
        go_region_held3 (fun w' => w'.cell? ⟨w.heap.size,0,none⟩ = some (Value.int .i64 4) ∧ w'.cell? ⟨w.heap.size,1,none⟩ = some (.int .i64 a) ∧ w'.cell? ⟨w.heap.size,2,none⟩ = some (.int .i64 b) ∧ w'.cell? ⟨w.heap.size,3,none⟩ = some (.int .i64 lo) ∧ w'.cell? ⟨w.heap.size,4,none⟩ = some (.int .i64 hi) ∧ w'.cell? ⟨w.heap.size,5,none⟩ = some (.int .i64 gr) ∧ w'.cell? ⟨w.heap.size,6,none⟩ = some (.int .u64 (s0 : Int)) ∧ w'.cell? ⟨w.heap.size,7,none⟩ = some (.int .u64 (s1 : Int)) ∧ w'.cell? ⟨w.heap.size,8,none⟩ = some (.int .u64 (s2 : Int)) ∧ w'.cell? ⟨w.heap.size,9,none⟩ = some (.int .u64 (s3 : Int)))
         (first | exact hN'.out.cells10 | go_keep)
         (first
         | (go_at_call 56;refine (hQ.out _).mono ?_;rintro e w3 ⟨rfl,hb3⟩;replace hN':=lhi (hN'.out.keep hb3);replace hb':=lhi (hb'.out.trans (hb3.mono hb'.out.size))))
        all_goals
         go_wp2
         go_ret
         exact ⟨ret_bool (by rw [hf.out]),hb'.out⟩
    by_cases h5 : kd = 5
    · subst h5
      replace hF:=hF.out
      rw [show (decide ((5 : Int) ≠ 4) || timesN lo hi) = true by simp,show (decide ((5 : Int) ≠ 5 ∧ (5 : Int) ≠ 6) || (decide (1 ≤ gr) && decide (gr ≤ g))) = (decide (1 ≤ gr) && decide (gr ≤ g)) by simp,show decide ((0 : Int) ≤ 5) = true by simp,show decide ((5 : Int) ≤ 8) = true by simp,Bool.true_and,Bool.true_and,Bool.true_and] at hF
      by_cases hg1 : gr < 1
      · have hf:=lhi (show r = false by rw [hF,decide_eq_false (show ¬ 1 ≤ gr by omega)];rfl)
        clear hF hE hG hQ hT c7 c8 c9
        go_wp2
        go_ret
        exact ⟨ret_bool hf.out.symm,hbW.out⟩
      · by_cases hg2 : g < gr
        · have hf:=lhi (show r = false by rw [hF,decide_eq_false (show ¬ gr ≤ g by omega)];simp)
          clear hF hE hG hQ hT c7 c8 c9
          go_wp2
          go_ret
          exact ⟨ret_bool hf.out.symm,hbW.out⟩
        · have hf:=lhi (show r = sm by rw [hF,decide_eq_true (show gr ≤ g by omega),decide_eq_true (show 1 ≤ gr by omega)];rfl)
          clear hF
          go_wp2
          have hE':=hE.out
          have hG':=hG.out
          have hN':=lhi hN.out.drew
          have hb':=lhi hbW.out.drew
          clear hE hG hN hbW hT c0 c1 c2' c3 c4 c5 c6 c7 c8 c9
          go_region_held3 (fun w' => w'.cell? ⟨w.heap.size,0,none⟩ = some (Value.int .i64 5) ∧ w'.cell? ⟨w.heap.size,1,none⟩ = some (.int .i64 a) ∧ w'.cell? ⟨w.heap.size,2,none⟩ = some (.int .i64 b) ∧ w'.cell? ⟨w.heap.size,3,none⟩ = some (.int .i64 lo) ∧ w'.cell? ⟨w.heap.size,4,none⟩ = some (.int .i64 hi) ∧ w'.cell? ⟨w.heap.size,5,none⟩ = some (.int .i64 gr) ∧ w'.cell? ⟨w.heap.size,6,none⟩ = some (.int .u64 (s0 : Int)) ∧ w'.cell? ⟨w.heap.size,7,none⟩ = some (.int .u64 (s1 : Int)) ∧ w'.cell? ⟨w.heap.size,8,none⟩ = some (.int .u64 (s2 : Int)) ∧ w'.cell? ⟨w.heap.size,9,none⟩ = some (.int .u64 (s3 : Int)))
           (first | exact hN'.out.cells10 | go_keep)
           (first
           | (go_at_call 56;refine (hQ.out _).mono ?_;rintro e w3 ⟨rfl,hb3⟩;replace hN':=lhi (hN'.out.keep hb3);replace hb':=lhi (hb'.out.trans (hb3.mono hb'.out.size))))
          all_goals
           go_wp2
           go_ret
           exact ⟨ret_bool (by rw [hf.out]),hb'.out⟩
    by_cases h6 : kd = 6
    · subst h6
      replace hF:=hF.out
      rw [show (decide ((6 : Int) ≠ 4) || timesN lo hi) = true by simp,show (decide ((6 : Int) ≠ 5 ∧ (6 : Int) ≠ 6) || (decide (1 ≤ gr) && decide (gr ≤ g))) = (decide (1 ≤ gr) && decide (gr ≤ g)) by simp,show decide ((0 : Int) ≤ 6) = true by simp,show decide ((6 : Int) ≤ 8) = true by simp,Bool.true_and,Bool.true_and,Bool.true_and] at hF
      by_cases hg1 : gr < 1
      · have hf:=lhi (show r = false by rw [hF,decide_eq_false (show ¬ 1 ≤ gr by omega)];rfl)
        clear hF hE hG hQ hT c7 c8 c9
        go_wp2
        go_ret
        exact ⟨ret_bool hf.out.symm,hbW.out⟩
      · by_cases hg2 : g < gr
        · have hf:=lhi (show r = false by rw [hF,decide_eq_false (show ¬ gr ≤ g by omega)];simp)
          clear hF hE hG hQ hT c7 c8 c9
          go_wp2
          go_ret
          exact ⟨ret_bool hf.out.symm,hbW.out⟩
        · have hf:=lhi (show r = sm by rw [hF,decide_eq_true (show gr ≤ g by omega),decide_eq_true (show 1 ≤ gr by omega)];rfl)
          clear hF
          go_wp2
          have hE':=hE.out
          have hG':=hG.out
          have hN':=lhi hN.out.drew
          have hb':=lhi hbW.out.drew
          clear hE hG hN hbW hT c0 c1 c2' c3 c4 c5 c6 c7 c8 c9
          go_region_held3 (fun w' => w'.cell? ⟨w.heap.size,0,none⟩ = some (Value.int .i64 6) ∧ w'.cell? ⟨w.heap.size,1,none⟩ = some (.int .i64 a) ∧ w'.cell? ⟨w.heap.size,2,none⟩ = some (.int .i64 b) ∧ w'.cell? ⟨w.heap.size,3,none⟩ = some (.int .i64 lo) ∧ w'.cell? ⟨w.heap.size,4,none⟩ = some (.int .i64 hi) ∧ w'.cell? ⟨w.heap.size,5,none⟩ = some (.int .i64 gr) ∧ w'.cell? ⟨w.heap.size,6,none⟩ = some (.int .u64 (s0 : Int)) ∧ w'.cell? ⟨w.heap.size,7,none⟩ = some (.int .u64 (s1 : Int)) ∧ w'.cell? ⟨w.heap.size,8,none⟩ = some (.int .u64 (s2 : Int)) ∧ w'.cell? ⟨w.heap.size,9,none⟩ = some (.int .u64 (s3 : Int)))
           (first | exact hN'.out.cells10 | go_keep)
           (first
           | (go_at_call 56;refine (hQ.out _).mono ?_;rintro e w3 ⟨rfl,hb3⟩;replace hN':=lhi (hN'.out.keep hb3);replace hb':=lhi (hb'.out.trans (hb3.mono hb'.out.size))))
          all_goals
           go_wp2
           go_ret
           exact ⟨ret_bool (by rw [hf.out]),hb'.out⟩
    · have q4:=beq_no h4
      have q5:=beq_no h5
      have q6:=beq_no h6
      replace hF:=hF.out
      rw [show (decide (kd ≠ 4) || timesN lo hi) = true by simp [h4],show (decide (kd ≠ 5 ∧ kd ≠ 6) || (decide (1 ≤ gr) && decide (gr ≤ g))) = true by simp [h5,h6],Bool.true_and,Bool.true_and] at hF
      clear h4 h5 h6
      by_cases hk0 : kd < 0
      · have hf:=lhi (show r = false by rw [hF,decide_eq_false (show ¬ 0 ≤ kd by omega)];rfl)
        have g1 : decide (0 ≤ kd) = false:=decide_eq_false (by omega)
        clear hF hE hG hQ hT
        go_wp2
        go_quiet (fail)
        go_wp2
        go_ret
        exact ⟨ret_bool hf.out.symm,below_drewN hbW.out _⟩
      · by_cases hk8 : 8 < kd
        · have hf:=lhi (show r = false by rw [hF,decide_eq_false (show ¬ kd ≤ 8 by omega)];simp)
          have g1 : decide (0 ≤ kd) = true:=decide_eq_true (by omega)
          have g2 : decide (kd ≤ 8) = false:=decide_eq_false (by omega)
          clear hF hE hG hQ hT
          go_wp2
          go_quiet (fail)
          go_wp2
          go_ret
          exact ⟨ret_bool hf.out.symm,below_drewN hbW.out _⟩
        · have hf:=lhi (show r = sm by rw [hF,decide_eq_true (show 0 ≤ kd by omega),decide_eq_true (show kd ≤ 8 by omega)];rfl)
          have g1 : decide (0 ≤ kd) = true:=decide_eq_true (by omega)
          have g2 : decide (kd ≤ 8) = true:=decide_eq_true (by omega)
          clear hF
          go_wp2
          have hE':=hE.out
          have hG':=hG.out
          have hN':=lhi hN.out.drew
          have hb':=lhi hbW.out.drew
          clear hE hG hN hbW hT c0 c1 c2' c3 c4 c5 c6 c7 c8 c9
          go_region_held3 (fun w' => w'.cell? ⟨w.heap.size,0,none⟩ = some (Value.int .i64 kd) ∧ w'.cell? ⟨w.heap.size,1,none⟩ = some (.int .i64 a) ∧ w'.cell? ⟨w.heap.size,2,none⟩ = some (.int .i64 b) ∧ w'.cell? ⟨w.heap.size,3,none⟩ = some (.int .i64 lo) ∧ w'.cell? ⟨w.heap.size,4,none⟩ = some (.int .i64 hi) ∧ w'.cell? ⟨w.heap.size,5,none⟩ = some (.int .i64 gr) ∧ w'.cell? ⟨w.heap.size,6,none⟩ = some (.int .u64 (s0 : Int)) ∧ w'.cell? ⟨w.heap.size,7,none⟩ = some (.int .u64 (s1 : Int)) ∧ w'.cell? ⟨w.heap.size,8,none⟩ = some (.int .u64 (s2 : Int)) ∧ w'.cell? ⟨w.heap.size,9,none⟩ = some (.int .u64 (s3 : Int)))
           (first | exact hN'.out.cells10 | go_keep)
           (first
           | (go_at_call 56;refine (hQ.out _).mono ?_;rintro e w3 ⟨rfl,hb3⟩;replace hN':=lhi (hN'.out.keep hb3);replace hb':=lhi (hb'.out.trans (hb3.mono hb'.out.size))))
          all_goals
           go_wp2
           go_ret
           exact ⟨ret_bool (by rw [hf.out]),hb'.out⟩
structure Bldr (w : World) (B T o : Nat) (v : Value) (ns : List Nod) (g : Nat) : Prop where
 obj : ∃ t cs,Held w T t cs ∧ 43 ≠ t ∧ cs[o]? = some v ∧ cs[o + 1]? = some (.int .i64 (g : Int))
 own : w.ownsRow B 43 10 v ns.length (nodsL ns)
 len : ns.length ≤ 1000
 grp : g ≤ 9
 base : B ≤ w.heap.size
structure Chg (w w' : World) (T o : Nat) (v v' : Value) : Prop where
 os : w'.os = w.os
 tape : w'.tape = w.tape
 output : w'.output = w.output
 size : w.heap.size ≤ w'.heap.size
 far : ∀ k,k < w.heap.size → k ≠ T → some k ≠ v.ownBlock → w'.heap[k]? = w.heap[k]?
 near : ∀ t cs,Held w T t cs → ∃ cs',Held w' T t cs' ∧ cs'.size = cs.size ∧ ∀ i,i ≠ o → i ≠ o + 1 → cs'[i]? = cs[i]?
 row : ∀ k,v'.ownBlock = some k → v.ownBlock = some k ∨ w.heap.size ≤ k
section
variable {w w' w1 : World} {B T o g : Nat} {v v' v1 : Value} {ns : List Nod}
theorem Chg.of_below (h : Below w.heap.size w w') : Chg w w' T o v v :=
 ⟨h.os,h.tape,h.output,h.size,fun k hk _ _ => h.block k hk,fun t cs hc => ⟨cs,hc.keep h,rfl,fun _ _ _ => rfl⟩,fun _ e => .inl e⟩
theorem Chg.trans (h : Chg w w1 T o v v1) (k : Chg w1 w' T o v1 v') : Chg w w' T o v v':=by
 refine ⟨k.os.trans h.os,k.tape.trans h.tape,k.output.trans h.output,Nat.le_trans h.size k.size,fun j hj hT hv => ?_,fun t cs hc => ?_,fun j e => ?_⟩
 · refine (k.far j (nll hj h.size) hT (fun e => ?_)).trans (h.far j hj hT hv)
   rcases h.row j e.symm with e1 | e1
   · exact hv e1.symm
   · omega
 · obtain ⟨c1,h1,s1,n1⟩:=h.near t cs hc
   obtain ⟨c2,h2,s2,n2⟩:=k.near t c1 h1
   exact ⟨c2,h2,s2.trans s1,fun i i1 i2 => (n2 i i1 i2).trans (n1 i i1 i2)⟩
 · rcases k.row j e with e1 | e1
   · exact h.row j e1
   · exact .inr (Nat.le_trans h.size e1)
theorem Chg.store {p : Nat} (hp : p = o ∨ p = o + 1) (u : Value) : Chg w (w.setCell ⟨T,p,none⟩ u) T o v v:=by
 have hb : Below 0 w (w.setCell ⟨T,p,none⟩ u):=(Below.refl 0 w).setCell (Nat.zero_le _) u
 refine ⟨hb.os,hb.tape,hb.output,hb.size,fun k hk hT _ => Below.heap_setCell w _ u k hT,fun t cs hc => ⟨_,hc.put p u,by simp,fun i i1 i2 => ?_⟩,fun _ e => .inl e⟩
 rw [Array.getElem?_setIfInBounds,if_neg (by omega)]
theorem Chg.grown (h : w.grownBy w' v.ownBlock) (hT : v.ownBlock ≠ some T) (hTl : T < w.heap.size) (hv : ∀ k,v'.ownBlock = some k → v.ownBlock = some k ∨ w.heap.size ≤ k) : Chg w w' T o v v' :=
 ⟨h.os,h.tape,h.output,h.size,fun k hk _ hne => h.block k hk hne,fun t cs hc => ⟨cs,hc.grown h (fun e => hT e.symm),rfl,fun _ _ _ => rfl⟩,hv⟩
theorem Chg.below (h : Chg w w' T o v v') (hB : B ≤ w.heap.size) (hT : B ≤ T) (hv : ∀ k,v.ownBlock = some k → B ≤ k) : Below B w w' :=
 ⟨h.os,h.tape,h.output,h.size,fun k hk => h.far k (by omega) (by omega) (fun e => by have:=hv k e.symm;omega)⟩
theorem Bldr.lt (h : Bldr w B T o v ns g) : T < w.heap.size:=by obtain ⟨t,cs,hc,_⟩:=h.obj;exact hc.lt
theorem Bldr.cv (h : Bldr w B T o v ns g) : w.cell? ⟨T,o,none⟩ = some v:=by obtain ⟨t,cs,hc,_,h1,_⟩:=h.obj;exact hc.at_ h1
theorem Bldr.cg (h : Bldr w B T o v ns g) : w.cell? ⟨T,o + 1,none⟩ = some (.int .i64 (g : Int)):=by obtain ⟨t,cs,hc,_,_,h1⟩:=h.obj;exact hc.at_ h1
theorem Bldr.thawed (h : Bldr w B T o v ns g) (p : Nat) : w.frozen? ⟨T,p,none⟩ = false:=by obtain ⟨t,cs,hc,_⟩:=h.obj;exact hc.thawed p
theorem Bldr.row (h : Bldr w B T o v ns g) : ∀ k,v.ownBlock = some k → B ≤ k:=fun k e => (h.own.lt k e).1
theorem Bldr.apart (h : Bldr w B T o v ns g) : v.ownBlock ≠ some T:=by obtain ⟨t,cs,hc,hne,_⟩:=h.obj;exact hc.not_own h.own hne
theorem Bldr.keep (h : Bldr w B T o v ns g) (hb : Below w.heap.size w w') : Bldr w' B T o v ns g:=by
 obtain ⟨t,cs,hc,hne,h1,h2⟩:=h.obj
 exact ⟨⟨t,cs,hc.keep hb,hne,h1,h2⟩,own_below h.own hb,h.len,h.grp,Nat.le_trans h.base hb.size⟩
theorem Bldr.drew (h : Bldr w B T o v ns g) : Bldr w.drew B T o v ns g:=h.keep (Below.refl _ w).drew
theorem Bldr.below (h : Bldr w B T o v ns g) (hT : B ≤ T) (hc : Chg w w' T o v v') : Below B w w':=hc.below h.base hT h.row
theorem Bldr.slice (h : Bldr w B T o v ns g) : ∃ A cap,v = .slice A ns.length cap ∧ ns.length ≤ cap ∧ cap ≤ maxLen ∧ Nods w w.heap.size A ns:=by
 obtain ⟨A,cap,h1,_,h2,h3,h4⟩:=own_nods h.own
 exact ⟨A,cap,h1,h2,h3,h4⟩
theorem Bldr.group (h : Bldr w B T o v ns g) {q : Nat} (hq : q ≤ 9) : Bldr (w.setCell ⟨T,o + 1,none⟩ (.int .i64 (q : Int))) B T o v ns q:=by
 obtain ⟨t,cs,hc,hne,h1,h2⟩:=h.obj
 have hlt : o + 1 < cs.size:=(Array.getElem?_eq_some_iff.1 h2).1
 have hgr : w.grownBy (w.setCell ⟨T,o + 1,none⟩ (.int .i64 (q : Int))) (some T):=by
  have hb : Below 0 w (w.setCell ⟨T,o + 1,none⟩ (.int .i64 (q : Int))):=(Below.refl 0 w).setCell (Nat.zero_le _) _
  exact ⟨hb.os,hb.tape,hb.output,hb.size,fun k _ hne => Below.heap_setCell w _ _ k (fun e => hne (by rw [e]))⟩
 refine ⟨⟨t,_,hc.put (o + 1) _,hne,?_,?_⟩,h.own.kept hgr (.inr h.apart),h.len,hq,Nat.le_trans h.base hgr.size⟩
 · rw [Array.getElem?_setIfInBounds,if_neg (by omega)];exact h1
 · rw [Array.getElem?_setIfInBounds,if_pos rfl,if_pos hlt]
end
theorem bhas_any (B T o : Nat) (v : Value) (ns : List Nod) (g : Nat) (x : Int) (w : World) (h : Bldr w B T o v ns g) :
    Calls Tryz.prog 63 #[.pointer (some ⟨T,o,none⟩),.int .i64 x] w fun e w' => e = .returned (.bool (okP (ns.length : Int) x)) ∧ w = w':=by
 have hcv:=h.cv
 obtain ⟨A,cap,rfl,h1,h2,-⟩:=h.slice
 have hl:=h.len
 clear h
 unfold maxLen at h2
 generalize ns.length = n at *
 by_cases hx : x < 0
 · rw [okP_neg hx]
   go_enter Tryz.func63,Tryz.ntmps63
   go_wp2
   go_ret
   exact ⟨rfl,rfl⟩
 · have hx0 : 0 ≤ x:=by omega
   rw [show okP (n : Int) x = decide (x < (n : Int)) by simp [okP,hx0]]
   go_enter Tryz.func63,Tryz.ntmps63
   go_wp2
   go_ret
   exact ⟨rfl,rfl⟩
def openI (g : Nat) : Int:=if g < 9 then (g : Int) + 1 else -1
def openG (g : Nat) : Nat:=if g < 9 then g + 1 else g
theorem open_any (B T o : Nat) (v : Value) (ns : List Nod) (g : Nat) (w : World) (h : Bldr w B T o v ns g) :
    Calls Tryz.prog 112 #[.pointer (some ⟨T,o,none⟩)] w fun e w' => e = .returned (.int .i64 (openI g)) ∧ Bldr w' B T o v ns (openG g) ∧ Chg w w' T o v v:=by
 have hcg:=h.cg
 have hth:=h.thawed (o + 1)
 have hg:=h.grp
 by_cases h9 : g < 9
 · rw [show openI g = (g : Int) + 1 by simp [openI,h9],show openG g = g + 1 by simp [openG,h9]]
   have h':=lhi (h.group (q:=g + 1) (by omega))
   clear h
   go_enter Tryz.func112,Tryz.ntmps112
   go_wp2
   go_ret
   exact ⟨rfl,h'.out,Chg.store (.inr rfl) _⟩
 · rw [show openI g = -1 by simp [openI,h9],show openG g = g by simp [openG,h9]]
   obtain rfl : g = 9:=by omega
   have h':=lhi h
   clear h
   go_enter Tryz.func112,Tryz.ntmps112
   go_wp2
   go_ret
   exact ⟨rfl,h'.out,Chg.of_below (Below.refl _ _)⟩
noncomputable def canPut (ns : List Nod) (g : Nat) (n : Nod) : Bool:=decide (ns.length < 1000) && fitsN n (ns.length : Int) (g : Int)
noncomputable def putI (ns : List Nod) (g : Nat) (n : Nod) : Int:=if canPut ns g n = true then (ns.length : Int) else -1
noncomputable def putL (ns : List Nod) (g : Nat) (n : Nod) : List Nod:=if canPut ns g n = true then ns ++ [n] else ns
def BldRet (w : World) (B T o : Nat) (v : Value) (z : Int) (ns : List Nod) (g : Nat) (e : Ending) (w' : World) : Prop :=
 ∃ v',e = .returned (.int .i64 z) ∧ Bldr w' B T o v' ns g ∧ Chg w w' T o v v'
theorem BldRet.mk {w : World} {B T o : Nat} {v v' : Value} {z z' : Int} {ns : List Nod} {g : Nat} {w' : World} (hz : z' = z) (h : Bldr w' B T o v' ns g) (hc : Chg w w' T o v v') : BldRet w B T o v z ns g (.returned (.int .i64 z')) w':=⟨v',by rw [hz],h,hc⟩
theorem node_info : (Tryz.prog.info? 43).map (fun i => (i.zero,i.size,i.bytes)) = some (some (.agg #[.int .i64 0,.int .i64 0,.int .i64 0,.int .i64 0,.int .i64 0,.int .i64 0,.int .u64 0,.int .u64 0,.int .u64 0,.int .u64 0]),10,80):=by kernel_rfl
def CellsN (w : World) (B : Nat) (k a b lo hi g : Int) (s0 s1 s2 s3 : Nat) : Prop :=
 w.cell? ⟨B,0,none⟩ = some (.int .i64 k) ∧ w.cell? ⟨B,1,none⟩ = some (.int .i64 a) ∧ w.cell? ⟨B,2,none⟩ = some (.int .i64 b) ∧ w.cell? ⟨B,3,none⟩ = some (.int .i64 lo) ∧ w.cell? ⟨B,4,none⟩ = some (.int .i64 hi) ∧
 w.cell? ⟨B,5,none⟩ = some (.int .i64 g) ∧ w.cell? ⟨B,6,none⟩ = some (.int .u64 (s0 : Int)) ∧ w.cell? ⟨B,7,none⟩ = some (.int .u64 (s1 : Int)) ∧ w.cell? ⟨B,8,none⟩ = some (.int .u64 (s2 : Int)) ∧ w.cell? ⟨B,9,none⟩ = some (.int .u64 (s3 : Int))
theorem Bldr.more {w w' : World} {B T o : Nat} {v u : Value} {ns : List Nod} {g : Nat} {n : Nod} (h : Bldr w B T o v ns g) (hl : ns.length < 1000) (hown : w'.ownsRow B 43 10 u (ns.length + 1) (nodsL ns ++ nodL n)) (hg : w.grownBy w' v.ownBlock) :
    Bldr (w'.setCell ⟨T,o,none⟩ u) B T o u (ns ++ [n]) g:=by
 obtain ⟨t,cs,hc,hne,h1,h2⟩:=h.obj
 have hlt : o < cs.size:=(Array.getElem?_eq_some_iff.1 h1).1
 have hT : Held w' T t cs:=hc.grown hg (fun e => h.apart e.symm)
 have hgr : w'.grownBy (w'.setCell ⟨T,o,none⟩ u) (some T):=by
  have hb : Below 0 w' (w'.setCell ⟨T,o,none⟩ u):=(Below.refl 0 w').setCell (Nat.zero_le _) u
  exact ⟨hb.os,hb.tape,hb.output,hb.size,fun k _ hne => Below.heap_setCell w' _ u k (fun e => hne (by rw [e]))⟩
 have hne2 : u.ownBlock ≠ some T:=hT.not_own hown hne
 refine ⟨⟨t,_,hT.put o u,hne,?_,?_⟩,?_,by simp;omega,h.grp,Nat.le_trans (Nat.le_trans h.base hg.size) hgr.size⟩
 · rw [Array.getElem?_setIfInBounds,if_pos rfl,if_pos hlt]
 · rw [Array.getElem?_setIfInBounds,if_neg (by omega)];exact h2
 · have:=hown.kept hgr (.inr hne2)
   rw [nodsL_append,lla]
   have e : nodsL [n] = nodL n:=by simp [nodsL]
   rw [e]
   exact this
theorem Bldr.grown {w w' : World} {B T o : Nat} {v : Value} {ns : List Nod} {g : Nat} (h : Bldr w B T o v ns g) (hg : w.grownBy w' v.ownBlock) : w'.cell? ⟨T,o,none⟩ = some v ∧ w'.frozen? ⟨T,o,none⟩ = false:=by
 obtain ⟨t,cs,hc,hne,h1,h2⟩:=h.obj
 have hT : Held w' T t cs:=hc.grown hg (fun e => h.apart e.symm)
 exact ⟨hT.at_ h1,hT.thawed o⟩
theorem put_any (B T o : Nat) (v : Value) (ns : List Nod) (g : Nat) (n : Nod) (w : World) (h : Bldr w B T o v ns g) :
    Calls Tryz.prog 41 #[.pointer (some ⟨T,o,none⟩),nodV n] w (BldRet w B T o v (putI ns g n) (putL ns g n) g):=by
 have hF:=lhi (fun w => fits_any n (ns.length : Int) (g : Int) w)
 have hb0 : Below w.heap.size w (w.alloc (.cells (nodC n) 43)):=(Below.refl _ _).alloc (nlr _) _
 have hN0:=held_new w 43 (nodC n)
 have h0:=h.keep hb0
 have hcv:=h0.cv
 have hcg:=h0.cg
 have hth:=h0.thawed o
 have hTl:=h.lt
 have hap:=lhi (show some w.heap.size ≠ v.ownBlock from fun e => absurd (h.own.lt _ e.symm).2 (Nat.lt_irrefl _))
 obtain ⟨A,cap,rfl,hk1,hk2,-⟩:=h.slice
 have hl:=h.len
 have hne : T ≠ w.heap.size:=by omega
 obtain ⟨i0,hi0,hq0,hq1,hq2⟩:=info_parts node_info
 have hI2:=lhi hq2
 have hh:=lhi h
 have hh0:=lhi h0
 clear h h0 hq2
 unfold maxLen at hk2
 by_cases hbig : 1000 ≤ ns.length
 · have hp : canPut ns g n = false:=by unfold canPut;rw [decide_eq_false (by omega)];rfl
   rw [show putI ns g n = -1 by simp [putI,hp],show putL ns g n = ns by simp [putL,hp]]
   have g1 : decide (1000 ≤ (ns.length : Int)) = true:=decide_eq_true (by omega)
   have hlen : ns.length = 1000:=by omega
   rw [hlen] at hcv g1
   replace hlen:=lhi hlen
   rw [hlen.out] at hh hh0 ⊢
   clear hF hN0 hi0 hq0 hq1 hI2 hk1 hl hbig
   have hb0':=lhi hb0
   clear hb0
   show Calls Tryz.prog 41 #[.pointer (some ⟨T,o,none⟩),.agg (nodC n)] w _
   go_enter Tryz.func41,Tryz.ntmps41
   go_wp2
   go_quiet (fail)
   go_wp2
   go_ret
   exact BldRet.mk rfl ((hh0.out).keep (below_drewN (Below.refl _ _) _)) (Chg.of_below (below_drewN hb0'.out _))
 · have hbig : ns.length < 1000:=by omega
   have hp : canPut ns g n = fitsN n (ns.length : Int) (g : Int):=by unfold canPut;rw [decide_eq_true hbig];rfl
   have hI : putI ns g n = if fitsN n (ns.length : Int) (g : Int) = true then (ns.length : Int) else -1:=by rw [← hp];rfl
   have hL : putL ns g n = if fitsN n (ns.length : Int) (g : Int) = true then ns ++ [n] else ns:=by rw [← hp];rfl
   rw [hI,hL]
   clear hI hL hp
   have g1 : decide (1000 ≤ (ns.length : Int)) = false:=decide_eq_false (by omega)
   have hmore:=lhi (fun w w' u (h : Bldr w B T o (.slice A ns.length cap) ns g) => h.more (w':=w') (u:=u) (n:=n) hbig)
   have hlen:=lhi (show ns.length = ns.length from rfl)
   generalize fitsN n (ns.length : Int) (g : Int) = fb at *
   generalize hLg : ns.length = L at *
   replace hLg:=lhi hLg
   generalize hnn : ns ++ [n] = nn at *
   generalize hnl : nodL n = nl at *
   generalize hz : (if fb = true then (L : Int) else -1) = z
   generalize hzl : (if fb = true then nn else ns) = zl
   replace hz:=lhi hz
   replace hzl:=lhi hzl
   have hnl':=lhi hnl
   have hb0':=lhi hb0
   obtain ⟨kd,a,b,lo,hi',gr,s⟩:=n
   rw [show nodC ⟨kd,a,b,lo,hi',gr,s⟩ = #[.int .i64 kd,.int .i64 a,.int .i64 b,.int .i64 lo,.int .i64 hi',.int .i64 gr,.int .u64 (wd s 0 : Nat),.int .u64 (wd s 1 : Nat),.int .u64 (wd s 2 : Nat),.int .u64 (wd s 3 : Nat)] from rfl] at hN0 hb0 hb0' hcv hcg hth hh0
   rw [nodV_lit] at hF ⊢
   rw [show nodL ⟨kd,a,b,lo,hi',gr,s⟩ = [.int .i64 kd,.int .i64 a,.int .i64 b,.int .i64 lo,.int .i64 hi',.int .i64 gr,.int .u64 (wd s 0 : Nat),.int .u64 (wd s 1 : Nat),.int .u64 (wd s 2 : Nat),.int .u64 (wd s 3 : Nat)] from rfl] at hnl'
   clear hnl hnn hlen
   generalize wd s 0 = s0 at *
   generalize wd s 1 = s1 at *
   generalize wd s 2 = s2 at *
   generalize wd s 3 = s3 at *
   have hN0':=lhi hN0
   clear hb0
   go_enter Tryz.func41,Tryz.ntmps41
   go_wp2
   have hN1:=lhi hN0'.out.drew
   have hB1:=lhi hh0.out.drew
   have hW1:=lhi hb0'.out.drew
   clear hN0' hN0 hh0 hb0' hcv hcg hth
   go_region_held3 (fun w' => w'.cell? ⟨w.heap.size,0,none⟩ = some (.int .i64 kd) ∧ w'.cell? ⟨w.heap.size,1,none⟩ = some (.int .i64 a) ∧ w'.cell? ⟨w.heap.size,2,none⟩ = some (.int .i64 b) ∧ w'.cell? ⟨w.heap.size,3,none⟩ = some (.int .i64 lo) ∧ w'.cell? ⟨w.heap.size,4,none⟩ = some (.int .i64 hi') ∧ w'.cell? ⟨w.heap.size,5,none⟩ = some (.int .i64 gr) ∧ w'.cell? ⟨w.heap.size,6,none⟩ = some (.int .u64 (s0 : Int)) ∧ w'.cell? ⟨w.heap.size,7,none⟩ = some (.int .u64 (s1 : Int)) ∧ w'.cell? ⟨w.heap.size,8,none⟩ = some (.int .u64 (s2 : Int)) ∧ w'.cell? ⟨w.heap.size,9,none⟩ = some (.int .u64 (s3 : Int)) ∧ w'.cell? ⟨T,o + 1,none⟩ = some (.int .i64 (g : Int)))
    (first | exact ⟨hN1.out.cells10.1,hN1.out.cells10.2.1,hN1.out.cells10.2.2.1,hN1.out.cells10.2.2.2.1,hN1.out.cells10.2.2.2.2.1,hN1.out.cells10.2.2.2.2.2.1,hN1.out.cells10.2.2.2.2.2.2.1,hN1.out.cells10.2.2.2.2.2.2.2.1,hN1.out.cells10.2.2.2.2.2.2.2.2.1,hN1.out.cells10.2.2.2.2.2.2.2.2.2,hB1.out.cg⟩ | go_keep)
    (first
    | (go_at_call 34;refine (hF.out _).mono ?_;rintro e w3 ⟨rfl,hb3⟩;replace hN1:=lhi (hN1.out.keep hb3);replace hB1:=lhi (hB1.out.keep hb3);replace hW1:=lhi (hW1.out.trans (hb3.mono hW1.out.size))))
   cases fb
   · have hz1:=lhi (show -1 = z from hz.out)
     have hzl1:=lhi (show ns = zl from hzl.out)
     clear hz hzl
     go_wp2
     go_ret
     exact BldRet.mk hz1.out (by rw [← hzl1.out];exact hB1.out) (Chg.of_below hW1.out)
   · have hz1:=lhi (show (L : Int) = z from hz.out)
     have hzl1:=lhi (show nn = zl from hzl.out)
     clear hz hzl hF
     go_wp2
     have hN2:=lhi hN1.out.drew
     have hB2:=lhi hB1.out.drew
     have hW2:=lhi hW1.out.drew
     clear hN1 hB1 hW1
     have hal:=lhi (fun o' : Obj => (Below.refl w3.drew.heap.size w3.drew).alloc (nlr _) o')
     have hTl2:=hB2.out.lt
     have hne2 : T ≠ w3.heap.size:=by
      have : w3.drew.heap.size = w3.heap.size:=rfl
      omega
     have hne3 : w.heap.size ≠ w3.heap.size:=by
      have:=hN2.out.lt
      have e : w3.drew.heap.size = w3.heap.size:=rfl
      omega
     have hcv : w3.cell? ⟨T,o,none⟩ = some (.slice A L cap):=hB2.out.cv
     have hTl3 : T < w3.heap.size:=hTl2
     have hNl3 : w.heap.size < w3.heap.size:=hN2.out.lt
     have ⟨c0,c1,c2,c3,c4,c5,c6,c7,c8,c9⟩ : CellsN w3 w.heap.size kd a b lo hi' gr s0 s1 s2 s3:=hN2.out.cells10
     go_region_law (
      refine step_append_lies _ (by rfl) _ _ 24 (by rfl) B 43 i0 _ 10 80 Tryz.underlying24 hi0 hq0 hq1 hI2.out rfl (by decide) (.slice A L cap) L (nodsL ns) (by rfl) (by have:=(hB2.out.keep (hal.out (.cells #[.int .i64 kd,.int .i64 a,.int .i64 b,.int .i64 lo,.int .i64 hi',.int .i64 gr,.int .u64 (s0 : Int),.int .u64 (s1 : Int),.int .u64 (s2 : Int),.int .u64 (s3 : Int)] 43))).own;rwa [hLg.out] at this) ⟨w3.drew.heap.size,0,none⟩ 1 1 [.int .i64 kd,.int .i64 a,.int .i64 b,.int .i64 lo,.int .i64 hi',.int .i64 gr,.int .u64 (s0 : Int),.int .u64 (s1 : Int),.int .u64 (s2 : Int),.int .u64 (s3 : Int)] (by rfl) rfl (new_cells w3.drew [.int .i64 kd,.int .i64 a,.int .i64 b,.int .i64 lo,.int .i64 hi',.int .i64 gr,.int .u64 (s0 : Int),.int .u64 (s1 : Int),.int .u64 (s2 : Int),.int .u64 (s3 : Int)] 43) (by simp [Value.oneCell']) (by omega) (by unfold maxLen;omega) (by omega) (by exact (hB2.out.keep (hal.out _)).base) (w3.drew.heap.size + 1) (by simp) ?_;intro g6 c6 w6 hown6 hg6 hb6 hg6lt
      have hB5:=lhi (hB2.out.keep (hal.out (.cells #[.int .i64 kd,.int .i64 a,.int .i64 b,.int .i64 lo,.int .i64 hi',.int .i64 gr,.int .u64 (s0 : Int),.int .u64 (s1 : Int),.int .u64 (s2 : Int),.int .u64 (s3 : Int)] 43)))
      have hN6:=lhi ((hN2.out.alloc (.cells #[.int .i64 kd,.int .i64 a,.int .i64 b,.int .i64 lo,.int .i64 hi',.int .i64 gr,.int .u64 (s0 : Int),.int .u64 (s1 : Int),.int .u64 (s2 : Int),.int .u64 (s3 : Int)] 43)).grown hg6 hap.out)
      have hC6:=lhi (hB5.out.grown hg6)
      have hc6:=hC6.out.1
      have hf6:=hC6.out.2
      have hM6:=lhi (hown6)
      have hG6:=lhi hg6
      have hZ6:=lhi hb6
      have hFin:=lhi (show Bldr (w6.setCell ⟨T,o,none⟩ (.slice (some ⟨g6,0,none⟩) (L + 1) c6)) B T o (.slice (some ⟨g6,0,none⟩) (L + 1) c6) nn g ∧ Chg w (w6.setCell ⟨T,o,none⟩ (.slice (some ⟨g6,0,none⟩) (L + 1) c6)) T o (.slice A L cap) (.slice (some ⟨g6,0,none⟩) (L + 1) c6) from
       ⟨hmore.out _ _ _ hB5.out (by rw [← hnl'.out];exact hM6.out) hG6.out,
        ((Chg.of_below (hW2.out.trans ((hal.out _).mono hW2.out.size))).trans (Chg.grown (v':=.slice (some ⟨g6,0,none⟩) (L + 1) c6) hG6.out hB5.out.apart hB5.out.lt (fun k e => by
         have e : g6 = k:=Option.some.inj e
         subst e
         exact hZ6.out.imp id (fun h => by rw [h,sizeA'];exact nlr _)))).trans (Chg.store (.inl rfl) _)⟩)
      clear hown6 hg6 hb6 hB5 hM6 hG6 hZ6)
     all_goals
      go_wp2
      go_ret
      exact BldRet.mk hz1.out (by rw [← hzl1.out];exact hFin.out.1) hFin.out.2
end Go.Proofs.YtonjnagcdnmcpaaGreatDoor
