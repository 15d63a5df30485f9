/- Contracts and plain facts: M40. -/
import Derived.Test.YtbdfhmefjfaofaaM39
set_option linter.unusedVariables false
set_option linter.unusedSimpArgs false
set_option maxRecDepth 100000
set_option maxHeartbeats 32000000
namespace Go.Proofs.Ytbdfhmefjfaofaa
open Go.RowKit
theorem may_no {nd : Nod} {t g : Int} (hf : fitsN nd t g = false) (w : World) : Calls Try.prog 23 #[nodV nd,.int .i64 t,.int .i64 g] w fun e w' => e = .returned (.bool false) ∧ Below w.heap.size w w':=by
 obtain ⟨k,a,b,lo,hi,q,s⟩:=nd
 have h : ¬ MayP t g k a b lo hi q (sameS s zset):=fun h => by rw [fits_may h] at hf;cases hf
 by_cases hk : 0 ≤ k ∧ k ≤ 8
 · obtain rfl | rfl | rfl | rfl | rfl | rfl | rfl | rfl | rfl : k = 0 ∨ k = 1 ∨ k = 2 ∨ k = 3 ∨ k = 4 ∨ k = 5 ∨ k = 6 ∨ k = 7 ∨ k = 8:=by omega
   · exact may_no0 w h
   · exact may_no1 w h
   · exact may_no2 w h
   · exact may_no3 w h
   · exact may_no4 w h
   · exact may_no5 w h
   · exact may_no6 w h
   · exact may_no7 w h
   · exact may_no8 w h
 · exact may_noK w hk
section
variable {ns : List Nod} {g : Nat}
theorem right_counts (hs : 1 ≤ ns.length ∧ ns.length ≤ 1000 ∧ 0 ≤ (g : Int) ∧ (g : Int) ≤ 9) (hf : ∀ k (hk : k < ns.length),fitsN (ns[k]'hk) (k : Int) (g : Int) = true) (hu : ∀ i,i < ns.length - 1 → usesN ns i = 1) (hg : ∀ q,1 ≤ q → q ≤ g → grpsN ns q = 1) : rightN ns (g : Int) = true:=by
 rw [rightN_end hs hf,onceL_yes,onceL_yes]
 · rfl
 · intro k hk
   rw [List.length_map,List.length_range,Int.toNat_natCast] at hk
   rw [List.getElem_map,List.getElem_range]
   exact hg (k + 1) (by omega) (by omega)
 · intro k hk
   rw [List.length_map,List.length_range] at hk
   rw [List.getElem_map,List.getElem_range]
   exact hu k hk
theorem right_no_use {i : Nat} (hi : i < ns.length - 1) (hu : usesN ns i ≠ 1) : rightN ns (g : Int) = false:=by
 cases h : rightN ns (g : Int) with
 | false => rfl
 | true => exact absurd ((right_all h).2.2.1 i hi) hu
theorem right_no_grp {q : Nat} (h1 : 1 ≤ q) (h2 : q ≤ g) (hu : grpsN ns q ≠ 1) : rightN ns (g : Int) = false:=by
 cases h : rightN ns (g : Int) with
 | false => rfl
 | true => exact absurd ((right_all h).2.2.2 q h1 h2) hu
end
def RelR1 (W : World) (ns : List Nod) (g n : Nat) (rv : Array Value) (iv : Value) (wr : World) : Prop :=
 ∃ k : Nat,k ≤ n ∧ iv = .int .i64 ((k : Nat) : Int) ∧ Held wr W.heap.size 24 rv ∧ Below W.heap.size W wr ∧ ∀ j (hj : j < ns.length),j < k → fitsN (ns[j]'hj) (j : Int) (g : Int) = true
theorem RelR1.mk {W : World} {ns : List Nod} {g n : Nat} {rv : Array Value} {iv : Value} {wr : World} (h : ∃ k : Nat,k ≤ n ∧ iv = .int .i64 ((k : Nat) : Int) ∧ Held wr W.heap.size 24 rv ∧ Below W.heap.size W wr ∧ ∀ j (hj : j < ns.length),j < k → fitsN (ns[j]'hj) (j : Int) (g : Int) = true) : RelR1 W ns g n rv iv wr:=h
def RelU3 (ns : List Nod) (m : Nat) (iv : Value) : Prop:=∃ i : Nat,i ≤ m ∧ iv = .int .i64 ((i : Nat) : Int) ∧ ∀ i',i' < i → usesN ns i' = 1
def RelG4 (ns : List Nod) (g : Nat) (iv : Value) : Prop:=∃ q : Nat,1 ≤ q ∧ q ≤ g + 1 ∧ iv = .int .i64 ((q : Nat) : Int) ∧ ∀ q',1 ≤ q' → q' < q → grpsN ns q' = 1
theorem refRight_go (A : Option Addr) (n c : Nat) (ns : List Nod) (g : Nat) (B : Nat) (w : World) (hn : n = ns.length) (hnc : n ≤ c) (hm : c ≤ maxLen) (hB : B ≤ w.heap.size) (h : Nods w B A ns) (h1 : 1 ≤ n) (h2 : n ≤ 1000) (h3 : (g : Int) ≤ 9) :
    Calls Try.prog 11 #[.agg #[.slice A n c,.int .i64 (g : Int)]] w fun e w' => e = .returned (.bool (rightN ns (g : Int))) ∧ Below w.heap.size w w':=by
 unfold maxLen at hm
 have hg9 : g ≤ 9:=by omega
 have hMk1:=make_ints n (by omega)
 have hMk2 : ∀ w,(Instr.makeSlice 59 (.int .i64 10) (.int .i64 10)).run Try.prog w = .ok (.slice (some ⟨w.heap.size,0,none⟩) 10 10) (w.alloc (.cells (rowC 10 (fun _ => 0)) 3)):=fun w => make_ints 10 (by decide) w
 have hH:=lhi hn
 have hh:=lhi h
 have hBB:=lhi hB
 have hw0:=lhi (held_new w 24 #[.slice A n c,.int .i64 (g : Int)])
 have hb0:=lhi (show Below w.heap.size w (w.alloc (.cells #[.slice A n c,.int .i64 (g : Int)] 24)) from (Below.refl _ _).alloc (nlr _) _)
 clear hn h hB
 go_enter Try.func11,Try.ntmps11
 go_wp2
 go_loopw [4] (fun iv wr => RelR1 w ns g n #[.slice A n c,.int .i64 (g : Int)] iv wr) (fun iv _ => n - (intOf iv).toNat)
 case atStart => exact RelR1.mk ⟨0,by omega,rfl,hw0.out,hb0.out,fun j hj h => absurd h (by omega)⟩
 case round =>
  obtain ⟨k,hk,rfl,hRe,hb,hfs⟩:=hrel
  by_cases hlt : k < n
  · have hkl : k < ns.length:=by have:=hH.out;omega
    obtain ⟨ad,b,o,hA,hp,-,hd⟩:=(hh.out.below (hb.mono hBB.out)).at_ hkl
    subst hA
    have hkn : (k : Int) < (n : Int):=by omega
    have hk0 : (0 : Int) ≤ (k : Int):=by omega
    have hNd:=lhi (fun w' (hb' : Below w.heap.size w w') => show w'.rangeAt b o (nodL (ns[k]'hkl)) from by
     obtain ⟨ad2,b2,o2,hA2,hp2,-,hd2⟩:=(hh.out.below (hb'.mono hBB.out)).at_ hkl
     cases hA2
     rw [hp] at hp2
     cases hp2
     exact hd2)
    have hfs2:=lhi (fun (h : fitsN (ns[k]'hkl) (k : Int) (g : Int) = true) j (hj : j < ns.length) (hjk : j < k + 1) => show fitsN (ns[j]'hj) (j : Int) (g : Int) = true by
     rcases Nat.lt_or_ge j k with h1 | h1
     · exact hfs j hj h1
     · obtain rfl : j = k:=by omega
       exact h)
    have hnof:=lhi (fun (h : fitsN (ns[k]'hkl) (k : Int) (g : Int) = false) => rightN_fits (g:=(g : Int)) hkl h)
    have hMy:=lhi (fun (h : fitsN (ns[k]'hkl) (k : Int) (g : Int) = true) w => may_fits h w)
    have hMn:=lhi (fun (h : fitsN (ns[k]'hkl) (k : Int) (g : Int) = false) w => may_no h w)
    clear hfs
    have hre:=lhi (fun w' (hb' : Below wr.heap.size wr w') => (show w'.cell? ⟨w.heap.size,0,none⟩ = some (.slice (some ad) n c) ∧ w'.cell? ⟨w.heap.size,1,none⟩ = some (.int .i64 (g : Int)) ∧ Held w' w.heap.size 24 #[.slice (some ad) n c,.int .i64 (g : Int)] from ⟨(hRe.keep hb').at_ rfl,(hRe.keep hb').at_ rfl,hRe.keep hb'⟩))
    have hbb:=lhi hb
    clear hRe hb hd hMk1 hMk2 hw0 hb0
    generalize hndE : ns[k]'hkl = nd at *
    clear hndE
    cases hft : fitsN nd (k : Int) (g : Int) with
    | true =>
     have hM:=lhi (hMy.out hft)
     have hfs3:=lhi (hfs2.out hft)
     clear hMy hMn hnof hfs2 hft
     obtain ⟨kd,a,bq,lo,hi',gr,s⟩:=nd
     rw [nodV_lit] at hM
     generalize hs0 : wd s 0 = s0 at hM
     generalize hs1 : wd s 1 = s1 at hM
     generalize hs2 : wd s 2 = s2 at hM
     generalize hs3 : wd s 3 = s3 at hM
     have hNc:=lhi (fun w' (hb' : Below w.heap.size w w') => show w'.cell? ⟨b,o,none⟩ = some (.int .i64 kd) ∧ w'.cell? ⟨b,o + 1,none⟩ = some (.int .i64 a) ∧ w'.cell? ⟨b,o + 2,none⟩ = some (.int .i64 bq) ∧ w'.cell? ⟨b,o + 3,none⟩ = some (.int .i64 lo) ∧ w'.cell? ⟨b,o + 4,none⟩ = some (.int .i64 hi') ∧ w'.cell? ⟨b,o + 5,none⟩ = some (.int .i64 gr) ∧ w'.cell? ⟨b,o + 6,none⟩ = some (.int .u64 (s0 : Int)) ∧ w'.cell? ⟨b,o + 7,none⟩ = some (.int .u64 (s1 : Int)) ∧ w'.cell? ⟨b,o + 8,none⟩ = some (.int .u64 (s2 : Int)) ∧ w'.cell? ⟨b,o + 9,none⟩ = some (.int .u64 (s3 : Int)) from by
      have hr:=hNd.out w' hb'
      subst hs0 hs1 hs2 hs3
      exact ⟨hr 0 _ rfl,hr 1 _ rfl,hr 2 _ rfl,hr 3 _ rfl,hr 4 _ rfl,hr 5 _ rfl,hr 6 _ rfl,hr 7 _ rfl,hr 8 _ rfl,hr 9 _ rfl⟩)
     clear hNd hs0 hs1 hs2 hs3
     have hx0:=lhi (show Below wr.heap.size wr wr.drew from (Below.refl _ _).drew)
     go_wp2
     go_region_held3 (fun w' => (w'.cell? ⟨w.heap.size,0,none⟩ = some (.slice (some ad) n c) ∧ w'.cell? ⟨w.heap.size,1,none⟩ = some (.int .i64 (g : Int))) ∧ w'.cell? ⟨b,o,none⟩ = some (.int .i64 kd) ∧ w'.cell? ⟨b,o + 1,none⟩ = some (.int .i64 a) ∧ w'.cell? ⟨b,o + 2,none⟩ = some (.int .i64 bq) ∧ w'.cell? ⟨b,o + 3,none⟩ = some (.int .i64 lo) ∧ w'.cell? ⟨b,o + 4,none⟩ = some (.int .i64 hi') ∧ w'.cell? ⟨b,o + 5,none⟩ = some (.int .i64 gr) ∧ w'.cell? ⟨b,o + 6,none⟩ = some (.int .u64 (s0 : Int)) ∧ w'.cell? ⟨b,o + 7,none⟩ = some (.int .u64 (s1 : Int)) ∧ w'.cell? ⟨b,o + 8,none⟩ = some (.int .u64 (s2 : Int)) ∧ w'.cell? ⟨b,o + 9,none⟩ = some (.int .u64 (s3 : Int)))
      (first | exact ⟨⟨(hre.out _ hx0.out).1,(hre.out _ hx0.out).2.1⟩,hNc.out _ (hbb.out.trans (hx0.out.mono hbb.out.size))⟩ | exact ⟨⟨(hre.out _ hb3.out).1,(hre.out _ hb3.out).2.1⟩,hNc.out _ (hbb.out.trans (hb3.out.mono hbb.out.size))⟩ | go_keep)
      (first
      | (go_at_call 23;refine (hM.out _).mono ?_;rintro e w3 ⟨rfl,hb3⟩;replace hb3:=lhi (hx0.out.trans (hb3.mono hx0.out.size))))
     go_wp2
     go_roundw
     case rel => exact RelR1.mk ⟨k + 1,by omega,by go_num,(hre.out _ hb3.out).2.2,hbb.out.trans (hb3.out.mono hbb.out.size),hfs3.out⟩
     case measure => simp [intOf];omega
    | false =>
     have hM:=lhi (hMn.out hft)
     have hfin:=lhi (hnof.out hft)
     clear hMy hMn hnof hfs2 hft
     obtain ⟨kd,a,bq,lo,hi',gr,s⟩:=nd
     rw [nodV_lit] at hM
     generalize hs0 : wd s 0 = s0 at hM
     generalize hs1 : wd s 1 = s1 at hM
     generalize hs2 : wd s 2 = s2 at hM
     generalize hs3 : wd s 3 = s3 at hM
     have hNc:=lhi (fun w' (hb' : Below w.heap.size w w') => show w'.cell? ⟨b,o,none⟩ = some (.int .i64 kd) ∧ w'.cell? ⟨b,o + 1,none⟩ = some (.int .i64 a) ∧ w'.cell? ⟨b,o + 2,none⟩ = some (.int .i64 bq) ∧ w'.cell? ⟨b,o + 3,none⟩ = some (.int .i64 lo) ∧ w'.cell? ⟨b,o + 4,none⟩ = some (.int .i64 hi') ∧ w'.cell? ⟨b,o + 5,none⟩ = some (.int .i64 gr) ∧ w'.cell? ⟨b,o + 6,none⟩ = some (.int .u64 (s0 : Int)) ∧ w'.cell? ⟨b,o + 7,none⟩ = some (.int .u64 (s1 : Int)) ∧ w'.cell? ⟨b,o + 8,none⟩ = some (.int .u64 (s2 : Int)) ∧ w'.cell? ⟨b,o + 9,none⟩ = some (.int .u64 (s3 : Int)) from by
      have hr:=hNd.out w' hb'
      subst hs0 hs1 hs2 hs3
      exact ⟨hr 0 _ rfl,hr 1 _ rfl,hr 2 _ rfl,hr 3 _ rfl,hr 4 _ rfl,hr 5 _ rfl,hr 6 _ rfl,hr 7 _ rfl,hr 8 _ rfl,hr 9 _ rfl⟩)
     clear hNd hs0 hs1 hs2 hs3
     have hx0:=lhi (show Below wr.heap.size wr wr.drew from (Below.refl _ _).drew)
     go_wp2
     go_region_held3 (fun w' => (w'.cell? ⟨w.heap.size,0,none⟩ = some (.slice (some ad) n c) ∧ w'.cell? ⟨w.heap.size,1,none⟩ = some (.int .i64 (g : Int))) ∧ w'.cell? ⟨b,o,none⟩ = some (.int .i64 kd) ∧ w'.cell? ⟨b,o + 1,none⟩ = some (.int .i64 a) ∧ w'.cell? ⟨b,o + 2,none⟩ = some (.int .i64 bq) ∧ w'.cell? ⟨b,o + 3,none⟩ = some (.int .i64 lo) ∧ w'.cell? ⟨b,o + 4,none⟩ = some (.int .i64 hi') ∧ w'.cell? ⟨b,o + 5,none⟩ = some (.int .i64 gr) ∧ w'.cell? ⟨b,o + 6,none⟩ = some (.int .u64 (s0 : Int)) ∧ w'.cell? ⟨b,o + 7,none⟩ = some (.int .u64 (s1 : Int)) ∧ w'.cell? ⟨b,o + 8,none⟩ = some (.int .u64 (s2 : Int)) ∧ w'.cell? ⟨b,o + 9,none⟩ = some (.int .u64 (s3 : Int)))
      (first | exact ⟨⟨(hre.out _ hx0.out).1,(hre.out _ hx0.out).2.1⟩,hNc.out _ (hbb.out.trans (hx0.out.mono hbb.out.size))⟩ | exact ⟨⟨(hre.out _ hb3.out).1,(hre.out _ hb3.out).2.1⟩,hNc.out _ (hbb.out.trans (hb3.out.mono hbb.out.size))⟩ | go_keep)
      (first
      | (go_at_call 23;refine (hM.out _).mono ?_;rintro e w3 ⟨rfl,hb3⟩;replace hb3:=lhi (hx0.out.trans (hb3.mono hx0.out.size))))
     go_wp2
     go_ret
     exact ⟨ret_bool hfin.out.symm,hbb.out.trans (hb3.out.mono hbb.out.size)⟩
  · obtain rfl : k = n:=by omega
    have hfit':=lhi (fun j (hj : j < ns.length) => hfs j hj (by have:=hH.out;omega))
    clear hfs
    have hbb:=lhi hb
    have hre0:=lhi hRe
    clear hRe hb hw0 hb0
    go_wp2
    have hG1:=lhi (show w.heap.size ≤ wr.heap.size from hbb.out.size)
    have hAt:=lhi (show RelR2 w wr.heap.size (wr.heap.size + 1) ns k #[.slice A k c,.int .i64 (g : Int)] (.int .i64 0) ((wr.alloc (.cells (rowC k (fun _ => 0)) 3)).alloc (.cells (rowC 10 (fun _ => 0)) 3)) from
     RelR2.mk ⟨0,by omega,rfl,(hre0.out.alloc _).alloc _,(held_new wr _ _).alloc _,held_new2 wr _ _ _,(hbb.out.alloc hbb.out.size _).alloc (by have:=hbb.out.size;simp;omega) _⟩)
    have hG0:=lhi hre0.out.lt
    clear hMk1 hMk2 hre0 hbb
    obtain ⟨G1,hG1e⟩ : ∃ G1,G1 = wr.heap.size:=⟨_,rfl⟩
    rw [← hG1e] at hG1 hAt hG0
    rw [← hG1e]
    generalize (wr.alloc (.cells (rowC k (fun _ => 0)) 3)).alloc (.cells (rowC 10 (fun _ => 0)) 3) = w5 at *
    clear hG1e
    go_loopw [7,8] (fun iv _ wr2 => RelR2 w G1 (G1 + 1) ns k #[.slice A k c,.int .i64 (g : Int)] iv wr2) (fun iv _ _ => k - (intOf iv).toNat)
    case atStart => exact hAt.out
    case round =>
     rename World => wr2
     clear hAt
     obtain ⟨j,hj,rfl,hRe,hR1,hR2,hb⟩:=hrel
     by_cases hjk : j < k
     · have hkl : j < ns.length:=by have:=hH.out;omega
       obtain ⟨ad,b,o,hA,hp,-,hd⟩:=(hh.out.below (hb.mono hBB.out)).at_ hkl
       subst hA
       have hfl:=lhi (fun w' nd (hnd : ns[j]'hkl = nd) (h : StR w w' G1 (G1 + 1) wr2.heap.size nd #[.slice (some ad) k c,.int .i64 (g : Int)] (rowC k (cntI ((ns.take j).flatMap partsN ++ partsN nd))) (rowC 10 (grpsN (ns.take (j + 1))))) => rel2_next hkl hH.out hnd h)
       have hg5:=lhi (grps_snoc ns j hkl)
       have hgn:=lhi (grps_same ns j hkl)
       have hft:=hfit'.out j hkl
       have hfp:=lhi (fun p hp => fits_part hft (p:=p) hp)
       have hfg:=lhi (fits_grp hft)
       have hPl:=lhi (flat_len (ns.take j))
       have hGl:=lhi (grp_len (ns.take j))
       rw [List.length_take] at hPl hGl
       obtain ⟨nd,hnd⟩ : ∃ nd,nd = ns[j]'hkl:=⟨_,rfl⟩
       rw [← hnd] at hd hg5 hgn hfp hfg
       have hnd':=lhi hnd.symm
       have hS0:=lhi (show StR w (wr2.alloc (.cells (nodC nd) 54)) G1 (G1 + 1) wr2.heap.size nd _ _ _ from ⟨hRe.alloc _,hR1.alloc _,hR2.alloc _,held_new wr2 _ _,hb.alloc hb.size _,by omega,hG1.out,by have:=hG1.out;omega⟩)
       replace hd:=lhi hd
       have cre:=hRe.at_ (i:=0) rfl
       have cre1:=hRe.lt
       clear hRe hR1 hR2 hb hnd hft
       have hjk0 : (j : Int) < (k : Int):=by omega
       have hj00 : (0 : Int) ≤ (j : Int):=by omega
       generalize hPe : (ns.take j).flatMap partsN = P at *
       replace hPe:=lhi hPe
       go_upto_region 15 with (first
        | (refine wpList_load_mid rfl 54 (.tmp 56) rfl b o rfl (nodL nd) _ hd.out under_nod rfl (nod_info nd) ?_)
        | (refine wpList_store_row rfl 54 (.tmp 8) (.tmp 57) rfl wr2.heap.size (nodC nd) rfl rfl 54 _ (nod_zero_lit wr2) (nod_size nd) rfl (nod_cells nd) ?_
           rw [World.setRow_alloc_new]
           generalize wr2.alloc (.cells (nodC nd) 54) = w3 at *
           generalize wr2.heap.size = G at *))
       have c0 : w3.cell? ⟨G,0,none⟩ = some (.int .i64 nd.kind):=hS0.out.nd.at_ rfl
       have hS1:=lhi (hS0.out.below (Below.refl _ w3).drew)
       by_cases hlo : nd.kind < 2 ∨ 5 < nd.kind
       · have k2 : (nd.kind == 2) = false:=beq_no (by omega)
         have k3 : (nd.kind == 3) = false:=beq_no (by omega)
         have k5 : (nd.kind == 5) = false:=beq_no (by omega)
         have hfin:=lhi (show RelR2 w G1 (G1 + 1) ns k #[.slice (some ad) k c,.int .i64 (g : Int)] (.int .i64 ((j : Int) + 1)) w3 from hfl.out _ nd hnd'.out (by
          rw [partsN_else (by omega) (by omega) (by omega) (by omega),List.append_nil,hgn.out (by omega)];exact hS0.out))
         generalize nd.kind = kd at *
         clear hS0 hS1
         rcases hlo with hlo | hlo
         · have y1 : ¬ 2 ≤ kd:=by omega
           go_wp2
           go_roundw
           case rel => exact hfin.out
           case measure => simp [intOf];omega
         · have y1 : 2 ≤ kd:=by omega
           have y2 : ¬ kd ≤ 5:=by omega
           go_wp2
           go_roundw
           case rel => exact hfin.out
           case measure => simp [intOf];omega
       · have hap:=hfp.out nd.a (by
           obtain e | e | e | e : nd.kind = 2 ∨ nd.kind = 3 ∨ nd.kind = 4 ∨ nd.kind = 5:=by omega
           · rw [partsN_2 e];simp
           · rw [partsN_3 e];simp
           · rw [partsN_4 e];simp
           · rw [partsN_5 e];simp)
         obtain ⟨q,hq⟩ : ∃ q : Nat,nd.a = (q : Int):=Int.eq_ofNat_of_zero_le hap.1
         have c1 : w3.cell? ⟨G,1,none⟩ = some (.int .i64 (q : Int)):=by rw [← hq];exact hS0.out.nd.at_ rfl
         have hqk : q < k:=by omega
         have hq0 : (0 : Int) ≤ (q : Int):=by omega
         have hq1 : (q : Int) < (k : Int):=by omega
         obtain ⟨cq,tq,hle1,hle2⟩:=hS0.out.cellA hqk
         have hPn:=hPl.out
         have hle3 : cntI P q ≤ 3000:=by omega
         have hS2:=lhi ((hS0.out.incA (q:=q)).below (Below.refl _ _).drew)
         have hPl2 : (P ++ [(q : Int)]).length ≤ 2001:=by rw [lla,lls];omega
         generalize hP2 : P ++ [(q : Int)] = P2 at *
         replace hP2:=lhi hP2
         clear hPn hle2
         generalize cntI P q = cv at *
         have hwc : IntKind.i64.wrap (cv + 1) = cv + 1:=IntWalk.i64_in _ (by omega)
         by_cases h23 : nd.kind = 2 ∨ nd.kind = 3
         · have hbp:=hfp.out nd.b (by
             rcases h23 with e | e
             · rw [partsN_2 e];simp
             · rw [partsN_3 e];simp)
           obtain ⟨p,hpb⟩ : ∃ p : Nat,nd.b = (p : Int):=Int.eq_ofNat_of_zero_le hbp.1
           have hpk : p < k:=by omega
           have hp0 : (0 : Int) ≤ (p : Int):=by omega
           have hp1 : (p : Int) < (k : Int):=by omega
           have hpart : partsN nd = [(q : Int),(p : Int)]:=by
            rcases h23 with e | e
            · rw [partsN_2 e,hq,hpb]
            · rw [partsN_3 e,hq,hpb]
           have hfin:=lhi (show ∀ w',StR w w' G1 (G1 + 1) G nd #[.slice (some ad) k c,.int .i64 (g : Int)] (rowC k (cntI (P2 ++ [(p : Int)]))) (rowC 10 (grpsN (ns.take j))) → RelR2 w G1 (G1 + 1) ns k #[.slice (some ad) k c,.int .i64 (g : Int)] (.int .i64 ((j : Int) + 1)) w' from fun w' hs => hfl.out _ nd hnd'.out (by
            rw [hpart,hgn.out (by omega),show P ++ [(q : Int),(p : Int)] = P2 ++ [(p : Int)] from by rw [← hP2.out];simp];exact hs))
           have hbc:=lhi (fun w' (hs : StR w w' G1 (G1 + 1) G nd #[.slice (some ad) k c,.int .i64 (g : Int)] (rowC k (cntI P2)) (rowC 10 (grpsN (ns.take j)))) => (show w'.cell? ⟨G,2,none⟩ = some (.int .i64 (p : Int)) ∧ w'.cell? ⟨G,0,none⟩ = some (.int .i64 nd.kind) from ⟨by rw [← hpb];exact hs.nd.at_ rfl,hs.nd.at_ rfl⟩))
           clear hpart hpb hbp hap hq hfl hg5 hgn hS0 hS1
           rcases h23 with e | e
           all_goals
            rw [e] at c0 hbc
            replace e:=lhi e
            go_wp2
            go_region_law (fail)
            all_goals
             have hs2:=hS2.out
             have hc2:=(hbc.out _ hs2).1
             have hc0:=(hbc.out _ hs2).2
             obtain ⟨cp,tp,hle4,hle5⟩:=hs2.cellA hpk
             have hle6 : cntI P2 p ≤ 3000:=by omega
             have hS3:=lhi ((hs2.incA (q:=p)).below (Below.refl _ _).drew)
             clear hle5 hs2
             generalize cntI P2 p = cv2 at *
             have hwc2 : IntKind.i64.wrap (cv2 + 1) = cv2 + 1:=IntWalk.i64_in _ (by omega)
             try rw [hwc]
             generalize (w3.setCell ⟨G1,q,none⟩ (.int .i64 (cv + 1))).drew = w4 at *
             go_wp2
             go_region_law (fail)
             all_goals
              have hfin3:=lhi (hfin.out _ hS3.out)
              have hc3 : (w4.setCell ⟨G1,p,none⟩ (.int .i64 (cv2 + 1))).drew.cell? ⟨G,0,none⟩ = some (.int .i64 nd.kind):=hS3.out.nd.at_ rfl
              rw [e.out] at hc3
              try rw [hwc2]
              generalize (w4.setCell ⟨G1,p,none⟩ (.int .i64 (cv2 + 1))).drew = w6' at *
              clear hS3 hS2
              go_wp2
              go_roundw
              case rel => exact hfin3.out
              case measure => simp [intOf];omega
         · have hpart : partsN nd = [(q : Int)]:=by
             obtain e | e : nd.kind = 4 ∨ nd.kind = 5:=by omega
             · rw [partsN_4 e,hq]
             · rw [partsN_5 e,hq]
           by_cases h5 : nd.kind = 5
           · obtain ⟨hq5a,hq5b⟩:=hfg.out h5
             obtain ⟨p,hpg⟩ : ∃ p : Nat,nd.grp = (p : Int):=Int.eq_ofNat_of_zero_le (by omega)
             have hp10 : p < 10:=by omega
             have hp0 : (0 : Int) ≤ (p : Int):=by omega
             have hp1 : (p : Int) < 10:=by omega
             have hgs:=lhi (hg5.out p h5 hpg)
             have hbc:=lhi (fun w' (hs : StR w w' G1 (G1 + 1) G nd #[.slice (some ad) k c,.int .i64 (g : Int)] (rowC k (cntI P2)) (rowC 10 (grpsN (ns.take j)))) => (show w'.cell? ⟨G,5,none⟩ = some (.int .i64 (p : Int)) ∧ w'.cell? ⟨G,0,none⟩ = some (.int .i64 5) from ⟨by rw [← hpg];exact hs.nd.at_ rfl,by rw [← h5];exact hs.nd.at_ rfl⟩))
             unfold grpsN at hS2 hbc
             generalize hX : (((ns.take j).filter fun n => decide (n.kind = 5)).map Nod.grp) = X at hS2 hbc hGl
             have hfin:=lhi (show ∀ w',StR w w' G1 (G1 + 1) G nd #[.slice (some ad) k c,.int .i64 (g : Int)] (rowC k (cntI P2)) (rowC 10 (cntI (X ++ [(p : Int)]))) → RelR2 w G1 (G1 + 1) ns k #[.slice (some ad) k c,.int .i64 (g : Int)] (.int .i64 ((j : Int) + 1)) w' from fun w' hs => hfl.out _ nd hnd'.out (by
              have e : grpsN (ns.take (j + 1)) = cntI (X ++ [(p : Int)]):=by
               funext i
               rw [hgs.out i,cntI_snoc]
               unfold grpsN
               rw [hX]
              rw [hpart,e,hP2.out];exact hs))
             have hXl : X.length ≤ 1000:=by have:=hGl.out;omega
             replace hX:=lhi hX
             rw [h5] at c0
             clear hpart hap hq hfl hg5 hgn hS0 hS1 hgs hGl hfg hq5a hq5b hpg h23
             replace h5:=lhi h5
             go_wp2
             go_region_law (fail)
             all_goals
              have hs2:=hS2.out
              have hc2:=(hbc.out _ hs2).1
              have hc0:=(hbc.out _ hs2).2
              obtain ⟨cp,tp,hle4,hle5⟩:=hs2.cellB hp10
              have hle6 : cntI X p ≤ 3000:=by omega
              have hS3:=lhi ((hs2.incB (q:=p)).below (Below.refl _ _).drew)
              clear hle5 hs2
              generalize cntI X p = cv2 at *
              have hwc2 : IntKind.i64.wrap (cv2 + 1) = cv2 + 1:=IntWalk.i64_in _ (by omega)
              try rw [hwc]
              generalize (w3.setCell ⟨G1,q,none⟩ (.int .i64 (cv + 1))).drew = w4 at *
              go_wp2
              go_region_law (fail)
              all_goals
               have hfin3:=lhi (hfin.out _ hS3.out)
               try rw [hwc2]
               generalize (w4.setCell ⟨G1 + 1,p,none⟩ (.int .i64 (cv2 + 1))).drew = w6' at *
               clear hS3 hS2
               go_wp2
               go_roundw
               case rel => exact hfin3.out
               case measure => simp [intOf];omega
           · have h4 : nd.kind = 4:=by omega
             have hfin:=lhi (show RelR2 w G1 (G1 + 1) ns k #[.slice (some ad) k c,.int .i64 (g : Int)] (.int .i64 ((j : Int) + 1)) _ from hfl.out _ nd hnd'.out (by rw [hpart,hgn.out h5,hP2.out];exact hS2.out))
             have hc0:=hS2.out.nd.at_ (i:=0) (v:=.int .i64 nd.kind) rfl
             rw [h4] at c0 hc0
             clear hpart hap hq hfl hg5 hgn hS0 hS1 hGl hfg h23 h5 hS2
             replace h4:=lhi h4
             go_wp2
             go_region_law (fail)
             all_goals
              try rw [hwc]
              generalize (w3.setCell ⟨G1,q,none⟩ (.int .i64 (cv + 1))).drew = w4 at *
              go_wp2
              go_roundw
              case rel => exact hfin.out
              case measure => simp [intOf];omega
     · obtain rfl : j = k:=by omega
       have htk : ns.take j = ns:=List.take_of_length_le (by have:=hH.out;omega)
       rw [htk] at hR1 hR2
       have hbb:=lhi hb
       have hre1:=hRe.at_ (i:=1) rfl
       have huj:=lhi (fun i (hi : i < j - 1) => show wr2.cell? ⟨G1,i,none⟩ = some (.int .i64 (usesN ns i)) from hR1.at_ (rowC_get j _ i (by omega)))
       have hgj:=lhi (fun q (h1 : 1 ≤ q) (h2 : q ≤ g) => show wr2.cell? ⟨G1 + 1,q,none⟩ = some (.int .i64 (grpsN ns q)) from hR2.at_ (rowC_get 10 _ q (by omega)))
       clear hR1 hR2 hRe hb htk
       have hj1 : IntKind.i64.wrap ((j : Int) - 1) = (j : Int) - 1:=IntWalk.i64_in _ (by omega)
       have hno3:=lhi (fun i (hi : i < j - 1) (hu : usesN ns i ≠ 1) => right_no_use (g:=g) (ns:=ns) (i:=i) (by have:=hH.out;omega) hu)
       have hno4:=lhi (fun q (h1 : 1 ≤ q) (h2 : q ≤ g) (hu : grpsN ns q ≠ 1) => right_no_grp (g:=g) (ns:=ns) h1 h2 hu)
       have hyes:=lhi (fun (hu : ∀ i,i < j - 1 → usesN ns i = 1) (hg : ∀ q,1 ≤ q → q ≤ g → grpsN ns q = 1) => right_counts (g:=g) (ns:=ns) (by have:=hH.out;omega) hfit'.out (fun i hi => hu i (by have:=hH.out;omega)) hg)
       go_wp2
       go_loop [9] (fun iv => RelU3 ns (j - 1) iv) (fun iv => j - (intOf iv).toNat)
       case atStart => exact ⟨0,by omega,rfl,fun i' h => absurd h (by omega)⟩
       case round =>
        obtain ⟨i,hi,rfl,hus⟩:=hrel
        by_cases hij : i < j - 1
        · have hcell:=huj.out i hij
          have hi0 : (0 : Int) ≤ (i : Int):=by omega
          have hi1 : (i : Int) < (j : Int):=by omega
          have hi2 : (i : Int) < (j : Int) - 1:=by omega
          have hnu:=lhi (hno3.out i hij)
          have hnx:=lhi (fun (h : usesN ns i = 1) i' (hi' : i' < i + 1) => show usesN ns i' = 1 by
           rcases Nat.lt_or_ge i' i with h1 | h1
           · exact hus i' h1
           · obtain rfl : i' = i:=by omega
             exact h)
          clear hus
          generalize usesN ns i = u at *
          by_cases hu : u = 1
          · subst hu
            go_wp2
            go_round
            case rel => exact ⟨i + 1,by omega,by go_num,hnx.out rfl⟩
            case measure => simp [intOf];omega
          · have hu1 : (u != 1) = true:=bne_yes hu
            replace hnu:=lhi (hnu.out hu)
            clear hu hnx
            go_wp2
            go_ret
            exact ⟨ret_bool hnu.out.symm,hbb.out⟩
        · have hi2 : ¬ (i : Int) < (j : Int) - 1:=by omega
          have hall:=lhi (fun i' (h : i' < j - 1) => hus i' (by omega))
          clear hus
          go_wp2
          go_loop [10] (fun iv => RelG4 ns g iv) (fun iv => 20 - (intOf iv).toNat)
          case atStart => exact ⟨1,by omega,by omega,rfl,fun q' h1 h2 => absurd h1 (by omega)⟩
          case round =>
           obtain ⟨q,hq1,hq2,rfl,hgs⟩:=hrel
           by_cases hqg : q ≤ g
           · have hcell:=hgj.out q hq1 hqg
             have hq0 : (0 : Int) ≤ (q : Int):=by omega
             have hq3 : (q : Int) < 10:=by omega
             have hnu:=lhi (hno4.out q hq1 hqg)
             have hnx:=lhi (fun (h : grpsN ns q = 1) q' (h1 : 1 ≤ q') (h2 : q' < q + 1) => show grpsN ns q' = 1 by
              rcases Nat.lt_or_ge q' q with h3 | h3
              · exact hgs q' h1 h3
              · obtain rfl : q' = q:=by omega
                exact h)
             clear hgs
             generalize grpsN ns q = u at *
             by_cases hu : u = 1
             · subst hu
               go_wp2
               go_round
               case rel => exact ⟨q + 1,by omega,by omega,by go_num,hnx.out rfl⟩
               case measure => simp [intOf];omega
             · have hu1 : (u != 1) = true:=bne_yes hu
               replace hnu:=lhi (hnu.out hu)
               clear hu hnx
               go_wp2
               go_ret
               exact ⟨ret_bool hnu.out.symm,hbb.out⟩
           · have hfin:=lhi (hyes.out hall.out (fun q' h1 h2 => hgs q' h1 (by omega)))
             clear hgs
             go_wp2
             go_ret
             exact ⟨ret_bool hfin.out.symm,hbb.out⟩
theorem refRight_small (A : Option Addr) (n c : Nat) (ns : List Nod) (g : Int) (w : World) (hn : n = ns.length) (hm : c ≤ maxLen) (hnc : n ≤ c) (h : ¬ (1 ≤ ns.length ∧ ns.length ≤ 1000 ∧ 0 ≤ g ∧ g ≤ 9)) :
    Calls Try.prog 11 #[.agg #[.slice A n c,.int .i64 g]] w fun e w' => e = .returned (.bool false) ∧ Below w.heap.size w w':=by
 unfold maxLen at hm
 have hb:=lhi ((Below.refl w.heap.size w).alloc (nlr _) (.cells #[.slice A n c,.int .i64 g] 24))
 rw [← hn] at h
 clear hn
 by_cases h1 : n < 1
 · clear h
   go_enter Try.func11,Try.ntmps11
   go_wp2
   go_ret
   exact ⟨rfl,hb.out⟩
 by_cases h2 : 1000 < n
 · clear h
   go_enter Try.func11,Try.ntmps11
   go_wp2
   go_ret
   exact ⟨rfl,hb.out⟩
 by_cases h3 : g < 0
 · clear h
   go_enter Try.func11,Try.ntmps11
   go_wp2
   go_ret
   exact ⟨rfl,hb.out⟩
 have h4 : 9 < g:=by omega
 clear h
 go_enter Try.func11,Try.ntmps11
 go_wp2
 go_ret
 exact ⟨rfl,hb.out⟩
theorem refRight_any (A : Option Addr) (n c : Nat) (ns : List Nod) (g : Int) (B : Nat) (w : World) (hn : n = ns.length) (hnc : n ≤ c) (hm : c ≤ maxLen) (hB : B ≤ w.heap.size) (h : Nods w B A ns) :
    Calls Try.prog 11 #[.agg #[.slice A n c,.int .i64 g]] w fun e w' => e = .returned (.bool (rightN ns g)) ∧ Below w.heap.size w w':=by
 by_cases hs : 1 ≤ ns.length ∧ ns.length ≤ 1000 ∧ 0 ≤ g ∧ g ≤ 9
 · obtain ⟨q,rfl⟩:=Int.eq_ofNat_of_zero_le hs.2.2.1
   exact refRight_go A n c ns q B w hn hnc hm hB h (by omega) (by omega) (by omega)
 · rw [rightN_size hs]
   exact refRight_small A n c ns g w hn hm hnc hs
end Go.Proofs.Ytbdfhmefjfaofaa
