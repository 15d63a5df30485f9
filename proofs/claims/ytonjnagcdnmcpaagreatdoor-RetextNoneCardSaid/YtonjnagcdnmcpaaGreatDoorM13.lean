/- Contracts and plain facts: M13. -/
import Derived.Test.YtonjnagcdnmcpaaGreatDoorM12
set_option linter.unusedVariables false
set_option linter.unusedSimpArgs false
set_option maxRecDepth 100000
set_option maxHeartbeats 32000000
namespace Go.Proofs.YtonjnagcdnmcpaaGreatDoor
open Go.RowKit
def escS (e : Bool) : List UInt8:=if e then [92,91,46,42,94,36,40,41,123,43,63,124] else [92,91,46,42,94,36]
def oneT (e : Bool) (c : UInt8) : List UInt8:=if c = 10 then [92,110] else if c ∈ escS e then [92,c] else [c]
def setT (e : Bool) (f : Nat → Bool) : List UInt8:=if sameS f allS then [46] else match elems f 256 with
 | [c] => oneT e c
 | _ => textR (sameS f (ofL [])) f
def timT (a b : List UInt8) (lo hi : Int) : List UInt8 :=
 if lo = 0 ∧ hi = -1 then [42] else if hi = -1 then a ++ (Lib.itoa lo ++ (44 :: b)) else if hi = lo then a ++ (Lib.itoa lo ++ b) else a ++ (Lib.itoa lo ++ (44 :: (Lib.itoa hi ++ b)))
theorem elems_alike (f : Nat → Bool) : alike (ofL (elems f 256)) f:=fun c hc => elems_any f 256 c (by decide) hc
theorem void_iff (f : Nat → Bool) : sameS f (ofL []) = true ↔ ∀ c,c < 256 → f c = false:=by
 rw [sameS_iff]
 constructor
 · intro h c hc
   rw [h c hc];rfl
 · intro h c hc
   rw [h c hc];rfl
theorem setT_ways (e : Bool) (f : Nat → Bool) : (alike allS f ∧ setT e f = [46]) ∨ (∃ c,elems f 256 = [c] ∧ alike (ofL [c]) f ∧ setT e f = oneT e c) ∨ setT e f = textR (sameS f (ofL [])) f:=by
 unfold setT
 by_cases h : sameS f allS = true
 · exact .inl ⟨fun c hc => ((sameS_iff f allS).1 h c hc).symm,if_pos h⟩
 · rw [if_neg h]
   have ha:=elems_alike f
   split
   · rename_i c hc
     rw [hc] at ha
     exact .inr (.inl ⟨c,hc,ha,rfl⟩)
   · exact .inr (.inr rfl)
theorem esc_al (e : Bool) : ∀ c ∈ escS e,isAl c = false:=by cases e <;> decide +kernel
theorem esc_n (e : Bool) : ∀ c ∈ escS e,c ≠ 110 ∧ ¬ (49 ≤ c ∧ c ≤ 57):=by cases e <;> decide +kernel
theorem esc_b : ∀ c ∈ escS false,c ≠ 40 ∧ c ≠ 41 ∧ c ≠ 123:=by decide
theorem tim_star (a b : List UInt8) : timT a b 0 (-1) = [42]:=rfl
theorem times_bd {lo hi : Int} (h : timesN lo hi = true) : 0 ≤ lo ∧ lo ≤ 255 ∧ (hi = -1 ∨ (lo ≤ hi ∧ hi ≤ 255)):=by
 unfold timesN at h
 simp only [Bool.and_eq_true,Bool.or_eq_true,decide_eq_true_eq] at h
 exact h
theorem itoa_len {m : Int} (h0 : 0 ≤ m) (h : m ≤ 255) : (Lib.itoa m).length ≤ 3:=by
 have : ∀ k : Fin 256,(Lib.itoa ((k.val : Nat) : Int)).length ≤ 3:=by decide +kernel
 obtain ⟨n,rfl⟩:=Int.eq_ofNat_of_zero_le h0
 exact this ⟨n,by omega⟩
theorem tim_len {a b : List UInt8} (ha : a.length ≤ 2) (hb : b.length ≤ 2) {lo hi : Int} (h : timesN lo hi = true) : (timT a b lo hi).length ≤ 20:=by
 obtain ⟨b1,b2,b3⟩:=times_bd h
 have l1:=itoa_len b1 b2
 unfold timT
 split
 · simp
 split
 · simp only [lla,List.length_cons];omega
 have l2:=itoa_len (m:=hi) (by omega) (by omega)
 split
 · simp only [lla];omega
 · simp only [lla,List.length_cons];omega
theorem joined_ls (ss : List ByteArray) (k : Nat) (hk : ss.length = k) (h1 : 1 ≤ k) (h4 : k ≤ 10) (hl : (ss.map fun s => s.data.toList).flatten.length ≤ 100000000) (w : World) :
    Calls Tryz.prog 60 #[.slice (some ⟨w.heap.size,0,none⟩) k k] (w.alloc (.cells (ss.map Value.string).toArray 9)) fun e w' => e = .returned (.string ⟨(ss.map fun s => s.data.toList).flatten.toArray⟩) ∧ Below w.heap.size w w':=by
 subst hk
 have HJ:=Tryz.strings_Join w.heap.size 0 ss.length ss ⟨#[]⟩ (w.alloc (.cells (ss.map Value.string).toArray 9)) (by
     intro j x hx
     obtain ⟨hj,rfl⟩:=List.getElem?_eq_some_iff.1 hx
     have:=new_cells w (ss.map Value.string) 9 j (.string (ss[j]'hj)) (by rw [List.getElem?_map,List.getElem?_eq_getElem hj];rfl)
     rw [add_zero_off] at this
     rw [Nat.zero_add]
     exact this) (by simp) (by omega) (nlr _) (by
     show (Lib.join (ss.map fun s => s.data.toList) []).length ≤ _
     rw [join_none];omega)
 have e0 : Lib.join (ss.map fun s => s.data.toList) (⟨#[]⟩ : ByteArray).data.toList = (ss.map fun s => s.data.toList).flatten:=join_none _
 rw [e0] at HJ
 generalize (ss.map fun s => s.data.toList).flatten = t at *
 have HJ:=lhi HJ
 have hb0:=lhi ((Below.refl w.heap.size w).alloc (nlr _) (.cells (ss.map Value.string).toArray 9))
 generalize (.cells (ss.map Value.string).toArray 9 : Obj) = o at *
 generalize ss.length = k at *
 clear hl e0 h1 h4
 go_enter Tryz.func60,Tryz.ntmps60
 go_wp2_with (go_at_call 85;refine (HJ.out).mono ?_;rintro e w2 ⟨rfl,hb2⟩)
 go_ret
 exact ⟨rfl,hb0.out.trans (hb2.mono hb0.out.size)⟩
section
variable (a b c d : ByteArray) (w : World)
theorem joined2 (hl : a.size + b.size ≤ 100000000) :
    Calls Tryz.prog 60 #[.slice (some ⟨w.heap.size,0,none⟩) 2 2] (w.alloc (.cells #[.string a,.string b] 9)) fun e w' => e = .returned (.string ⟨(a.data.toList ++ b.data.toList).toArray⟩) ∧ Below w.heap.size w w':=by
 have h1:=len_toList a
 have h2:=len_toList b
 have:=joined_ls [a,b] 2 rfl (by decide) (by decide) (by simp only [List.map_cons,List.map_nil,List.flatten_cons,List.flatten_nil,lla,List.length_nil];omega) w
 simp only [List.map_cons,List.map_nil,List.flatten_cons,List.flatten_nil,List.append_nil] at this
 exact this
theorem joined3 (hl : a.size + b.size + c.size ≤ 100000000) :
    Calls Tryz.prog 60 #[.slice (some ⟨w.heap.size,0,none⟩) 3 3] (w.alloc (.cells #[.string a,.string b,.string c] 9)) fun e w' => e = .returned (.string ⟨(a.data.toList ++ (b.data.toList ++ c.data.toList)).toArray⟩) ∧ Below w.heap.size w w':=by
 have h1:=len_toList a
 have h2:=len_toList b
 have h3:=len_toList c
 have:=joined_ls [a,b,c] 3 rfl (by decide) (by decide) (by simp only [List.map_cons,List.map_nil,List.flatten_cons,List.flatten_nil,lla,List.length_nil];omega) w
 simp only [List.map_cons,List.map_nil,List.flatten_cons,List.flatten_nil,List.append_nil] at this
 exact this
theorem joined4 (hl : a.size + b.size + c.size + d.size ≤ 100000000) :
    Calls Tryz.prog 60 #[.slice (some ⟨w.heap.size,0,none⟩) 4 4] (w.alloc (.cells #[.string a,.string b,.string c,.string d] 9)) fun e w' => e = .returned (.string ⟨(a.data.toList ++ (b.data.toList ++ (c.data.toList ++ d.data.toList))).toArray⟩) ∧ Below w.heap.size w w':=by
 have h1:=len_toList a
 have h2:=len_toList b
 have h3:=len_toList c
 have h4:=len_toList d
 have:=joined_ls [a,b,c,d] 4 rfl (by decide) (by decide) (by simp only [List.map_cons,List.map_nil,List.flatten_cons,List.flatten_nil,lla,List.length_nil];omega) w
 simp only [List.map_cons,List.map_nil,List.flatten_cons,List.flatten_nil,List.append_nil] at this
 exact this
end
theorem signs_any (e : Bool) (w : World) :
    Calls Tryz.prog 20 #[.bool e] w fun en w' => en = .returned (if e then .agg #[.string ⟨#[40]⟩,.string ⟨#[41]⟩,.string ⟨#[123]⟩,.string ⟨#[125]⟩,.string ⟨#[92,91,46,42,94,36,40,41,123,43,63,124]⟩] else .agg #[.string ⟨#[92,40]⟩,.string ⟨#[92,41]⟩,.string ⟨#[92,123]⟩,.string ⟨#[92,125]⟩,.string ⟨#[92,91,46,42,94,36]⟩]) ∧ Below w.heap.size w w':=by
 cases e with
 | true =>
  simp only [if_true]
  go_enter Tryz.func20,Tryz.ntmps20
  go_wp2
  exact bodyPost_ret (v:=.agg #[.string ⟨#[40]⟩,.string ⟨#[41]⟩,.string ⟨#[123]⟩,.string ⟨#[125]⟩,.string ⟨#[92,91,46,42,94,36,40,41,123,43,63,124]⟩]) (results_cell_row Tryz.results20 _ _ w.heap.size 49 #[.string ⟨#[40]⟩,.string ⟨#[41]⟩,.string ⟨#[123]⟩,.string ⟨#[125]⟩,.string ⟨#[92,91,46,42,94,36,40,41,123,43,63,124]⟩] (0,0) _ rfl (held_new _ _ _) Tryz.underlying49 rfl (by kernel_rfl)) rfl ⟨rfl,(Below.refl w.heap.size w).alloc (nlr _) _⟩
 | false =>
  simp only [Bool.false_eq_true,if_false]
  go_enter Tryz.func20,Tryz.ntmps20
  go_wp2
  exact bodyPost_ret (v:=.agg #[.string ⟨#[92,40]⟩,.string ⟨#[92,41]⟩,.string ⟨#[92,123]⟩,.string ⟨#[92,125]⟩,.string ⟨#[92,91,46,42,94,36]⟩]) (results_cell_row Tryz.results20 _ _ w.heap.size 49 #[.string ⟨#[92,40]⟩,.string ⟨#[92,41]⟩,.string ⟨#[92,123]⟩,.string ⟨#[92,125]⟩,.string ⟨#[92,91,46,42,94,36]⟩] (0,0) _ rfl (held_new _ _ _) Tryz.underlying49 rfl (by kernel_rfl)) rfl ⟨rfl,(Below.refl w.heap.size w).alloc (nlr _) _⟩
def ds (B : Nat) : Nat → Nat → Nat
 | 0,_ => 0
 | n + 1,x => x % B + ds B n (x / B)
def small (B c : Nat) : Nat → Nat → Prop
 | 0,_ => True
 | n + 1,x => x % B ≤ c ∧ small B c n (x / B)
def up (B : Nat) : Nat → Nat → Nat
 | 0,_ => 0
 | n + 1,x => (x / B % B + x % B) + B * B * up B n (x / (B * B))
def mask (B : Nat) : Nat → Nat
 | 0 => 0
 | n + 1 => (B - 1) + B * B * mask B n
theorem ds_two (B n x : Nat) : ds B (2 * n) x = match n with | 0 => 0 | m + 1 => (x / B % B + x % B) + ds B (2 * m) (x / (B * B)):=by
 cases n with
 | zero => rfl
 | succ m =>
  show ds B (2 * m + 2) x = _
  simp only [ds,Nat.div_div_eq_div_mul]
  omega
theorem up_mod (B n x : Nat) (hB : 2 ≤ B) : up B (n + 1) x % (B * B) = x / B % B + x % B ∧ up B (n + 1) x / (B * B) = up B n (x / (B * B)):=by
 have h1 : x / B % B < B:=Nat.mod_lt _ (by omega)
 have h2 : x % B < B:=Nat.mod_lt _ (by omega)
 have h3 : x / B % B + x % B < B * B:=by
  have : 2 * B ≤ B * B:=Nat.mul_le_mul_right _ hB
  omega
 simp only [up]
 constructor
 · rw [Nat.add_mul_mod_self_left,Nat.mod_eq_of_lt h3]
 · rw [Nat.add_mul_div_left _ _ (by omega),Nat.div_eq_of_lt h3,Nat.zero_add]
theorem ds_up (B : Nat) (hB : 2 ≤ B) (n x : Nat) : ds (B * B) n (up B n x) = ds B (2 * n) x:=by
 induction n generalizing x with
 | zero => rfl
 | succ n ih =>
  rw [ds_two]
  obtain ⟨h1,h2⟩:=up_mod B n x hB
  show up B (n + 1) x % (B * B) + ds (B * B) n (up B (n + 1) x / (B * B)) = _
  rw [h1,h2,ih]
theorem small_up (B c : Nat) (hB : 2 ≤ B) (n x : Nat) (h : small B c (2 * n) x) : small (B * B) (2 * c) n (up B n x):=by
 induction n generalizing x with
 | zero => trivial
 | succ n ih =>
  obtain ⟨h1,h2⟩:=up_mod B n x hB
  have h' : small B c (2 * n + 2) x:=h
  simp only [small,Nat.div_div_eq_div_mul] at h'
  show up B (n + 1) x % (B * B) ≤ 2 * c ∧ small (B * B) (2 * c) n (up B (n + 1) x / (B * B))
  rw [h1,h2]
  exact ⟨by omega,ih _ h'.2.2⟩
theorem and_parts (b a m c d : Nat) (ha : a < 2 ^ b) (hm : m < 2 ^ b) : (a + 2 ^ b * c) &&& (m + 2 ^ b * d) = (a &&& m) + 2 ^ b * (c &&& d):=by
 have hp : 0 < 2 ^ b:=Nat.pow_pos (by decide)
 rw [← Nat.mod_add_div ((a + 2 ^ b * c) &&& (m + 2 ^ b * d)) (2 ^ b)]
 rw [Nat.and_mod_two_pow,Nat.and_div_two_pow]
 rw [Nat.add_mul_mod_self_left,Nat.add_mul_mod_self_left,Nat.mod_eq_of_lt ha,Nat.mod_eq_of_lt hm]
 rw [Nat.add_mul_div_left _ _ hp,Nat.add_mul_div_left _ _ hp,Nat.div_eq_of_lt ha,Nat.div_eq_of_lt hm,Nat.zero_add,Nat.zero_add]
theorem and_low (b x : Nat) : x &&& (2 ^ b - 1) = x % 2 ^ b:=Nat.and_two_pow_sub_one_eq_mod x b
theorem masked (b n x : Nat) : x &&& mask (2 ^ b) n = match n with | 0 => 0 | m + 1 => x % 2 ^ b + 2 ^ b * 2 ^ b * (x / (2 ^ b * 2 ^ b) &&& mask (2 ^ b) m):=by
 cases n with
 | zero => simp [mask]
 | succ m =>
  simp only [mask]
  have hp : 0 < 2 ^ b:=Nat.pow_pos (by decide)
  have hpp : 2 ^ b * 2 ^ b = 2 ^ (b + b):=(Nat.pow_add 2 b b).symm
  have hle : 2 ^ b ≤ 2 ^ (b + b):=Nat.pow_le_pow_right (by decide) (by omega)
  have e : x = x % 2 ^ (b + b) + 2 ^ (b + b) * (x / 2 ^ (b + b)):=(Nat.mod_add_div x _).symm
  rw [hpp]
  conv => lhs;rw [e]
  rw [and_parts (b + b) _ _ _ _ (Nat.mod_lt _ (by omega)) (by omega),and_low]
  congr 1
  rw [← hpp]
  exact Nat.mod_mul_right_mod x _ _
theorem add_masked (b n x : Nat) : (x / 2 ^ b &&& mask (2 ^ b) n) + (x &&& mask (2 ^ b) n) = up (2 ^ b) n x:=by
 induction n generalizing x with
 | zero => simp [mask,up]
 | succ n ih =>
  rw [masked,masked]
  simp only [up]
  rw [← ih (x / (2 ^ b * 2 ^ b))]
  have : x / 2 ^ b / (2 ^ b * 2 ^ b) = x / (2 ^ b * 2 ^ b) / 2 ^ b:=by
   rw [Nat.div_div_eq_div_mul,Nat.div_div_eq_div_mul,Nat.mul_comm]
  rw [this,Nat.mul_add]
  omega
theorem sum_masked (b c n x : Nat) (hc : 2 * c < 2 ^ b) (h : small (2 ^ b) c (2 * n) x) : (x / 2 ^ b + x) &&& mask (2 ^ b) n = up (2 ^ b) n x:=by
 induction n generalizing x with
 | zero => simp [mask,up]
 | succ n ih =>
  have h' : small (2 ^ b) c (2 * n + 2) x:=h
  simp only [small,Nat.div_div_eq_div_mul] at h'
  obtain ⟨h1,h2,h3⟩:=h'
  have hp : 0 < 2 ^ b:=Nat.pow_pos (by decide)
  rw [masked]
  simp only [up]
  rw [← ih _ h3]
  have hm : (x / 2 ^ b + x) % 2 ^ b = x / 2 ^ b % 2 ^ b + x % 2 ^ b:=by
   rw [Nat.add_mod];exact Nat.mod_eq_of_lt (by omega)
  rw [hm]
  cases n with
  | zero => simp [mask]
  | succ m =>
   have h4 : small (2 ^ b) c (2 * m + 2) (x / (2 ^ b * 2 ^ b)):=h3
   simp only [small] at h4
   have h5:=h4.1
   clear h4 h3 h ih hm
   generalize 2 ^ b = B at *
   have e1 : x = x % B + B * (x / B):=(Nat.mod_add_div x B).symm
   have e2 : x / B = x / B % B + B * (x / (B * B)):=by rw [← Nat.div_div_eq_div_mul];exact (Nat.mod_add_div _ B).symm
   have e3 : x / (B * B) = x / (B * B) % B + B * (x / (B * B) / B):=(Nat.mod_add_div _ B).symm
   generalize x / (B * B) = y at *
   generalize x % B = lo at *
   generalize x / B = z at *
   generalize z % B = hi at *
   generalize y % B = yl at *
   generalize y / B = yh at *
   have e4 : z + x = (lo + hi + B * (hi + yl)) + B * B * (yh + y):=by
    have a1 : B * z = B * hi + B * B * y:=by rw [e2,Nat.mul_add,Nat.mul_assoc]
    have a2 : B * y = B * yl + B * B * yh:=by
     conv => lhs;rw [e3]
     rw [Nat.mul_add,Nat.mul_assoc]
    rw [Nat.mul_add B hi yl,Nat.mul_add (B * B) yh y]
    omega
   have e5 : lo + hi + B * (hi + yl) < B * B:=by
    have : B * (hi + yl) ≤ B * (B - 1):=Nat.mul_le_mul_left _ (by omega)
    rw [Nat.mul_sub,Nat.mul_one] at this
    have : B ≤ B * B:=Nat.le_mul_of_pos_left B hp
    omega
   rw [e4,Nat.add_mul_div_left _ _ (by omega),Nat.div_eq_of_lt e5,Nat.zero_add]
theorem ds_cnt (f : Nat → Bool) (n : Nat) : ds 2 n (num f n) = cnt f n:=by
 induction n generalizing f with
 | zero => rfl
 | succ n ih =>
  have e : cnt f (n + 1) = cnt f 1 + cnt (fun i => f (1 + i)) n:=by rw [Nat.add_comm];exact cnt_add f 1 n
  rw [e,num_cons]
  show _ % 2 + ds 2 n (_ / 2) = _
  have h1 : (2 * num (fun i => f (i + 1)) n + if f 0 = true then 1 else 0) / 2 = num (fun i => f (i + 1)) n:=by split <;> omega
  have h2 : (2 * num (fun i => f (i + 1)) n + if f 0 = true then 1 else 0) % 2 = if f 0 = true then 1 else 0:=by split <;> omega
  rw [h1,h2,ih]
  simp only [cnt]
  rw [Nat.zero_add]
  congr 1
  exact cnt_congr fun i _ => by rw [Nat.add_comm]
theorem small_bits (n x : Nat) : small 2 1 n x:=by
 induction n generalizing x with
 | zero => trivial
 | succ n ih => exact ⟨by omega,ih _⟩
theorem div_form {x r m y : Nat} (h : x = r + m * y) (hr : r < m) : x / m = y:=by
 rw [h,Nat.add_mul_div_left _ _ (by omega),Nat.div_eq_of_lt hr,Nat.zero_add]
theorem eight (x : Nat) (h : small 256 8 8 x) (hx : x < 18446744073709551616) :
    ∃ d0 d1 d2 d3 d4 d5 d6 d7 : Nat,d0 ≤ 8 ∧ d1 ≤ 8 ∧ d2 ≤ 8 ∧ d3 ≤ 8 ∧ d4 ≤ 8 ∧ d5 ≤ 8 ∧ d6 ≤ 8 ∧ d7 ≤ 8 ∧ ds 256 8 x = d0 + d1 + d2 + d3 + d4 + d5 + d6 + d7 ∧
     x = d0 + 256 * d1 + 65536 * d2 + 16777216 * d3 + 4294967296 * d4 + 1099511627776 * d5 + 281474976710656 * d6 + 72057594037927936 * d7:=by
 obtain ⟨q1,hq1⟩ : ∃ q,q = x / 256:=⟨_,rfl⟩
 obtain ⟨q2,hq2⟩ : ∃ q,q = q1 / 256:=⟨_,rfl⟩
 obtain ⟨q3,hq3⟩ : ∃ q,q = q2 / 256:=⟨_,rfl⟩
 obtain ⟨q4,hq4⟩ : ∃ q,q = q3 / 256:=⟨_,rfl⟩
 obtain ⟨q5,hq5⟩ : ∃ q,q = q4 / 256:=⟨_,rfl⟩
 obtain ⟨q6,hq6⟩ : ∃ q,q = q5 / 256:=⟨_,rfl⟩
 obtain ⟨q7,hq7⟩ : ∃ q,q = q6 / 256:=⟨_,rfl⟩
 simp only [small] at h
 simp only [ds]
 simp only [← hq1,← hq2,← hq3,← hq4,← hq5,← hq6,← hq7] at h ⊢
 obtain ⟨h0,h1,h2,h3,h4,h5,h6,h7,-⟩:=h
 have a0:=Nat.mod_add_div x 256
 have a1:=Nat.mod_add_div q1 256
 have a2:=Nat.mod_add_div q2 256
 have a3:=Nat.mod_add_div q3 256
 have a4:=Nat.mod_add_div q4 256
 have a5:=Nat.mod_add_div q5 256
 have a6:=Nat.mod_add_div q6 256
 simp only [← hq1,← hq2,← hq3,← hq4,← hq5,← hq6,← hq7] at a0 a1 a2 a3 a4 a5 a6
 have hq : q7 < 256:=by
  clear a0 a1 a2 a3 a4 a5 a6 h0 h1 h2 h3 h4 h5 h6 h7
  subst hq1 hq2 hq3 hq4 hq5 hq6 hq7
  omega
 have a7 : q7 % 256 = q7:=Nat.mod_eq_of_lt hq
 clear hq1 hq2 hq3 hq4 hq5 hq6 hq7
 refine ⟨x % 256,q1 % 256,q2 % 256,q3 % 256,q4 % 256,q5 % 256,q6 % 256,q7 % 256,h0,h1,h2,h3,h4,h5,h6,h7,by omega,?_⟩
 rw [a7]
 generalize x % 256 = d0 at *
 generalize q1 % 256 = d1 at *
 generalize q2 % 256 = d2 at *
 generalize q3 % 256 = d3 at *
 generalize q4 % 256 = d4 at *
 generalize q5 % 256 = d5 at *
 generalize q6 % 256 = d6 at *
 clear h0 h1 h2 h3 h4 h5 h6 h7 a7 hq
 omega
theorem last_sum (x : Nat) (h : small 256 8 8 x) (hx : x < 18446744073709551616) :
    ∃ x4 x5 x6 : Nat,x4 = x + x / 256 ∧ x5 = x4 + x4 / 65536 ∧ x6 = x5 + x5 / 4294967296 ∧ x6 % 128 = ds 256 8 x ∧ x4 < 9223372036854775808 ∧ x5 < 9223372036854775808 ∧ x6 < 9223372036854775808:=by
 obtain ⟨d0,d1,d2,d3,d4,d5,d6,d7,b0,b1,b2,b3,b4,b5,b6,b7,hs,rfl⟩:=eight x h hx
 rw [hs]
 clear hs h hx
 refine ⟨_,_,_,rfl,rfl,rfl,?_⟩
 have e1 : (d0 + 256 * d1 + 65536 * d2 + 16777216 * d3 + 4294967296 * d4 + 1099511627776 * d5 + 281474976710656 * d6 + 72057594037927936 * d7) / 256 = d1 + 256 * d2 + 65536 * d3 + 16777216 * d4 + 4294967296 * d5 + 1099511627776 * d6 + 281474976710656 * d7:=div_form (r:=d0) (by omega) (by omega)
 rw [e1]
 have e2 : (d0 + 256 * d1 + 65536 * d2 + 16777216 * d3 + 4294967296 * d4 + 1099511627776 * d5 + 281474976710656 * d6 + 72057594037927936 * d7 + (d1 + 256 * d2 + 65536 * d3 + 16777216 * d4 + 4294967296 * d5 + 1099511627776 * d6 + 281474976710656 * d7)) / 65536 =
     (d2 + d3) + 256 * (d3 + d4) + 65536 * (d4 + d5) + 16777216 * (d5 + d6) + 4294967296 * (d6 + d7) + 1099511627776 * d7:=div_form (r:=d0 + d1 + 256 * (d1 + d2)) (by omega) (by omega)
 rw [e2]
 have e3 : (d0 + 256 * d1 + 65536 * d2 + 16777216 * d3 + 4294967296 * d4 + 1099511627776 * d5 + 281474976710656 * d6 + 72057594037927936 * d7 + (d1 + 256 * d2 + 65536 * d3 + 16777216 * d4 + 4294967296 * d5 + 1099511627776 * d6 + 281474976710656 * d7) +
     ((d2 + d3) + 256 * (d3 + d4) + 65536 * (d4 + d5) + 16777216 * (d5 + d6) + 4294967296 * (d6 + d7) + 1099511627776 * d7)) / 4294967296 =
     (d4 + d5 + (d6 + d7)) + 256 * (d5 + d6 + d7) + 65536 * (d6 + d7) + 16777216 * d7:=div_form (r:=d0 + d1 + d2 + d3 + 256 * (d1 + d2 + d3 + d4) + 65536 * (d2 + d3 + d4 + d5) + 16777216 * (d3 + d4 + d5 + d6)) (by omega) (by omega)
 rw [e3]
 omega
theorem mask_2 : mask (2 ^ 1) 32 = 6148914691236517205:=by decide +kernel
theorem mask_4 : mask (2 ^ 2) 16 = 3689348814741910323:=by decide +kernel
theorem mask_16 : mask (2 ^ 4) 8 = 1085102592571150095:=by decide +kernel
theorem i64_and127 (x : Nat) (h : x < 9223372036854775808) : bits .and .i64 (x : Int) 127 = ((x % 128 : Nat) : Int):=by
 show IntKind.i64.wrap ((BitVec.ofInt 64 (x : Int) &&& BitVec.ofInt 64 127).toNat : Int) = _
 have e : (BitVec.ofInt 64 (x : Int)).toNat = x:=by rw [BitVec.ofInt_natCast,BitVec.toNat_ofNat];exact Nat.mod_eq_of_lt (by omega)
 have e2 : (BitVec.ofInt 64 127).toNat = 2 ^ 7 - 1:=rfl
 rw [BitVec.toNat_and,e,e2,Nat.and_two_pow_sub_one_eq_mod]
 exact IntWalk.i64_in _ (by omega)
theorem up_lt (B : Nat) (hB : 2 ≤ B) (n x : Nat) (hn : 0 < n) : up B n x < (B * B) ^ n:=by
 induction n generalizing x with
 | zero => omega
 | succ n ih =>
  simp only [up]
  have h1 : x / B % B < B:=Nat.mod_lt _ (by omega)
  have h2 : x % B < B:=Nat.mod_lt _ (by omega)
  have h3 : x / B % B + x % B < B * B:=by
   have : 2 * B ≤ B * B:=Nat.mul_le_mul_right _ hB
   omega
  cases n with
  | zero => simp [up];omega
  | succ m =>
   have h4:=ih (x / (B * B)) (by omega)
   rw [Nat.pow_succ,Nat.mul_comm _ (B * B)]
   have : B * B * (up B (m + 1) (x / (B * B)) + 1) ≤ B * B * (B * B) ^ (m + 1):=Nat.mul_le_mul_left _ h4
   rw [Nat.mul_add,Nat.mul_one] at this
   omega
theorem small_top (B c n x : Nat) (hB : 0 < B) (h : x < B ^ (n + 1)) (hs : small B c (n + 1) x) : x < (c + 1) * B ^ n:=by
 induction n generalizing x with
 | zero =>
  have h1 : x % B ≤ c:=hs.1
  rw [Nat.mod_eq_of_lt (by simpa using h)] at h1
  simp;omega
 | succ n ih =>
  have h1 : x / B < (c + 1) * B ^ n:=ih (x / B) (Nat.div_lt_of_lt_mul (by rw [Nat.pow_succ] at h;rw [Nat.mul_comm];exact h)) hs.2
  rw [Nat.pow_succ,← Nat.mul_assoc]
  exact (Nat.div_lt_iff_lt_mul hB).1 h1
theorem ones_way (x : Nat) (h : x < 18446744073709551616) : ∃ a1 a2 x1 a3 a4 x2 y x3 x4 x5 x6 : Nat,
    (bits .and .u64 ((x : Int) / 2) 6148914691236517205 = (a1 : Int) ∧ bits .and .u64 (x : Int) 6148914691236517205 = (a2 : Int) ∧ (a1 : Int) + (a2 : Int) = (x1 : Int) ∧ x1 < 18446744073709551616) ∧
    (bits .and .u64 ((x1 : Int) / 4) 3689348814741910323 = (a3 : Int) ∧ bits .and .u64 (x1 : Int) 3689348814741910323 = (a4 : Int) ∧ (a3 : Int) + (a4 : Int) = (x2 : Int) ∧ x2 < 18446744073709551616) ∧
    ((x2 : Int) / 16 + (x2 : Int) = (y : Int) ∧ y < 18446744073709551616 ∧ bits .and .u64 (y : Int) 1085102592571150095 = (x3 : Int) ∧ x3 < 18446744073709551616) ∧
    ((x3 : Int) + (x3 : Int) / 256 = (x4 : Int) ∧ x4 < 9223372036854775808 ∧ (x4 : Int) + (x4 : Int) / 65536 = (x5 : Int) ∧ x5 < 9223372036854775808 ∧ (x5 : Int) + (x5 : Int) / 4294967296 = (x6 : Int) ∧ x6 < 9223372036854775808) ∧
    bits .and .i64 (x6 : Int) 127 = ((ds 2 64 x : Nat) : Int):=by
 have m1:=add_masked 1 32 x
 rw [mask_2] at m1
 have l1 : up (2 ^ 1) 32 x < 18446744073709551616:=up_lt 2 (by decide) 32 x (by decide)
 have d1:=ds_up 2 (by decide) 32 x
 have s1:=small_up 2 1 (by decide) 32 x (small_bits _ _)
 generalize hx1 : up (2 ^ 1) 32 x = x1 at *
 have m2:=add_masked 2 16 x1
 rw [mask_4] at m2
 have l2 : up (2 ^ 2) 16 x1 < 18446744073709551616:=up_lt 4 (by decide) 16 x1 (by decide)
 have d2:=ds_up 4 (by decide) 16 x1
 have s2:=small_up 4 2 (by decide) 16 x1 s1
 generalize hx2 : up (2 ^ 2) 16 x1 = x2 at *
 have m3:=sum_masked 4 4 8 x2 (by decide) s2
 rw [mask_16] at m3
 have l3 : up (2 ^ 4) 8 x2 < 18446744073709551616:=up_lt 16 (by decide) 8 x2 (by decide)
 have d3:=ds_up 16 (by decide) 8 x2
 have s3:=small_up 16 4 (by decide) 8 x2 s2
 generalize hx3 : up (2 ^ 4) 8 x2 = x3 at *
 obtain ⟨x4,x5,x6,e4,e5,e6,e7,b4,b5,b6⟩:=last_sum x3 s3 l3
 have hyl : x2 / 2 ^ 4 + x2 < 18446744073709551616:=by
  have h1 : x2 < 5 * 16 ^ 15:=small_top 16 4 15 x2 (by decide) l2 s2
  have h2 : x2 < 5764607523034234880:=h1
  omega
 refine ⟨x / 2 ^ 1 &&& 6148914691236517205,x &&& 6148914691236517205,x1,x1 / 2 ^ 2 &&& 3689348814741910323,x1 &&& 3689348814741910323,x2,x2 / 2 ^ 4 + x2,x3,x4,x5,x6,⟨?_,?_,?_,l1⟩,⟨?_,?_,?_,l2⟩,⟨?_,hyl,?_,l3⟩,⟨?_,b4,?_,b5,?_,b6⟩,?_⟩
 · exact u64_and_nat (x / 2) 6148914691236517205 (by omega) (by decide)
 · exact u64_and_nat x 6148914691236517205 h (by decide)
 · rw [← m1];omega
 · exact u64_and_nat (x1 / 4) 3689348814741910323 (by omega) (by decide)
 · exact u64_and_nat x1 3689348814741910323 l1 (by decide)
 · rw [← m2];omega
 · rfl
 · rw [← m3];exact u64_and_nat (x2 / 2 ^ 4 + x2) 1085102592571150095 hyl (by decide)
 · omega
 · omega
 · omega
 · have D1 : ds 4 32 x1 = ds 2 64 x:=d1
   have D2 : ds 16 16 x2 = ds 4 32 x1:=d2
   have D3 : ds 256 8 x3 = ds 16 16 x2:=d3
   rw [i64_and127 _ b6,e7,D3,D2,D1]
theorem ones_any (x : Nat) (w : World) (h : x < 18446744073709551616) :
    Calls Tryz.prog 123 #[.int .u64 (x : Int)] w fun e w' => e = .returned (.int .i64 ((ds 2 64 x : Nat) : Int)) ∧ w = w':=by
 obtain ⟨a1,a2,x1,a3,a4,x2,y,x3,x4,x5,x6,⟨p1,p2,p3,p4⟩,⟨q1,q2,q3,q4⟩,⟨r1,r2,r3,r4⟩,⟨s1,s2,s3,s4,s5,s6⟩,hz⟩:=ones_way x h
 have hz':=lhi hz
 clear hz
 go_enter Tryz.func123,Tryz.ntmps123
 go_wp2
 go_ret
 exact ⟨ret_int hz'.out,rfl⟩
theorem ds_wd (f : Nat → Bool) (k : Nat) : ds 2 64 (wd f k) = cnt (fun i => f (64 * k + i)) 64:=ds_cnt _ 64
theorem cnt_next (f : Nat → Bool) (k : Nat) : cnt f (64 * k) + ds 2 64 (wd f k) = cnt f (64 * (k + 1)):=by
 rw [ds_wd,← cnt_add,Nat.mul_add]
def RelCnt (f : Nat → Bool) (v i : Value) : Prop:=∃ k : Nat,k ≤ 4 ∧ v = .int .i64 ((cnt f (64 * k) : Nat) : Int) ∧ i = .int .i64 (k : Nat)
theorem RelCnt.mk {f : Nat → Bool} {v i : Value} (h : ∃ k : Nat,k ≤ 4 ∧ v = .int .i64 ((cnt f (64 * k) : Nat) : Int) ∧ i = .int .i64 (k : Nat)) : RelCnt f v i:=h
theorem count_any (f : Nat → Bool) (w : World) :
    Calls Tryz.prog 100 #[setV f] w fun e w' => e = .returned (.int .i64 ((cnt f 256 : Nat) : Int)) ∧ Below w.heap.size w w':=by
 show Calls Tryz.prog 100 #[.agg (setC f)] w _
 go_enter Tryz.func100,Tryz.ntmps100
 go_wp2_with (refine wpList_load_row rfl 41 (.tmp 1) rfl w.heap.size rfl 41 _ (0,0) _ (set_new w f) Tryz.underlying41 rfl (set_size _) ?_)
 go_loop [3,7] (RelCnt f) (fun _ i => 4 - (intOf i).toNat)
 case atStart => exact RelCnt.mk ⟨0,by omega,rfl,rfl⟩
 case round =>
  obtain ⟨k,hk,rfl,rfl⟩:=hrel
  by_cases hlt : k < 4
  · have hK : k = 0 ∨ k = 1 ∨ k = 2 ∨ k = 3:=by omega
    have hix:=run_index f k hK
    have hlx:=wd_lt f k
    have hnx:=cnt_next f k
    have hl:=cnt_le f (64 * (k + 1))
    have k0 : (0 : Int) ≤ (k : Int):=by omega
    have k1 : (k : Int) < 4:=by omega
    have hsum : ((cnt f (64 * k) : Nat) : Int) + ((ds 2 64 (wd f k) : Nat) : Int) = ((cnt f (64 * (k + 1)) : Nat) : Int):=by omega
    have hb : cnt f (64 * (k + 1)) ≤ 256:=by omega
    clear hK hnx hl
    go_wp2_with (go_at_call 123;refine (ones_any _ _ hlx).mono ?_;rintro e w' ⟨rfl,rfl⟩)
    go_round
    case rel => exact RelCnt.mk ⟨k + 1,by omega,by go_num,by go_num⟩
    case measure => simp [intOf];omega
  · obtain rfl : k = 4:=by omega
    go_wp2
    go_ret
    exact ⟨rfl,(Below.refl _ _).alloc (nlr _) _⟩
theorem bytes_any (f : Nat → Bool) (w : World) :
    Calls Tryz.prog 80 #[setV f] w fun e w' =>
     ∃ v,e = .returned v ∧ w'.ownsRow w.heap.size 5 1 v (elems f 256).length (bv (elems f 256)) ∧ Below w.heap.size w w':=by
 obtain ⟨i0,hi,hz0,hi1,hi2⟩ : ∃ i0,Tryz.prog.info? 5 = some i0 ∧ i0.zero = some (.int .u8 0) ∧ i0.size = 1 ∧ i0.bytes = 1:=by
  obtain ⟨i0,h1,h2⟩:=Option.map_eq_some_iff.1 byteInfo
  simp at h2
  exact ⟨i0,h1,h2.1,h2.2.1,h2.2.2⟩
 have hI1:=lhi hi1
 have hI2:=lhi hi2
 have hcl:=cnt_le f 256
 clear hi2
 show Calls Tryz.prog 80 #[.agg (setC f)] w _
 go_enter Tryz.func80,Tryz.ntmps80
 go_wp2_with (first
  | (refine wpList_load_row rfl 41 (.tmp 1) rfl w.heap.size rfl 41 _ (0,0) _ (set_new w f) Tryz.underlying41 rfl (set_size _) ?_)
  | (go_at_call 100;refine (count_any f _).mono ?_;rintro e w1 ⟨rfl,hb1⟩;have hs1:=lhi ((set_new w f).below hb1 (set_new w f).lt);have hbW:=lhi (((Below.refl _ _).alloc (nlr _) _).trans (hb1.mono (by simp))))
  | (at_make;refine wpList_make_own _ rfl _ _ 22 rfl (w.heap.size + 1) 5 i0 _ 1 Tryz.underlying22 hi hz0 hi1 _ _ _ (cnt f 256) rfl rfl rfl (by rw [hI2.out];omega) (by unfold maxLen;omega) (by have:=hs1.out.lt;omega) ?_;intro w2 hown2 hg2))
 go_loopw [3,8] (RelBy w f) (fun _ i _ => 256 - (intOf i).toNat)
 case atStart => exact RelBy.mk ⟨0,by omega,rfl,hs1.out.grown hg2 (by simp),hown2,hbW.out.grown hg2 hbW.out.size (by simp)⟩
 case round =>
  clear hown2 hg2 hbW hs1 hb1
  obtain ⟨k,hk,rfl,hs,hown,hb⟩:=hrel
  have hs':=lhi hs
  have hb':=lhi hb
  clear hs hb hi1
  by_cases hlt : k < 256
  · have k3 : IntKind.u8.wrap (k : Int) = (k : Int):=IntWalk.u8_in _ (by omega)
    have hln:=elems_le f k
    cases hf : f k
    · have hfk:=lhi hf
      have he:=lhi (elems_out hf)
      clear hf
      go_wp2_with (first
       | (refine wpList_load_row rfl 41 (.tmp 1) rfl w.heap.size rfl 41 _ (0,0) _ hs'.out Tryz.underlying41 rfl (set_size _) ?_)
       | (go_at_call 101;refine (has_any f k _ hlt).mono ?_;rintro e w1 ⟨rfl,hb1⟩;rw [hfk.out];have hbW:=hb'.out.trans (hb1.mono hb'.out.size);replace hown:=own_below hown hb1))
      go_roundw
      case rel => exact RelBy.mk ⟨k + 1,by omega,by go_num,hs'.out.below hb1 hs'.out.lt,by rw [he.out];exact hown,hbW⟩
      case measure => simp [intOf];omega
    · have hfk:=lhi hf
      have he:=lhi (elems_in hf)
      clear hf
      go_wp2_with (first
       | (refine wpList_load_row rfl 41 (.tmp 1) rfl w.heap.size rfl 41 _ (0,0) _ hs'.out Tryz.underlying41 rfl (set_size _) ?_)
       | (go_at_call 101;refine (has_any f k _ hlt).mono ?_;rintro e w1 ⟨rfl,hb1⟩;rw [hfk.out];have hbW:=hb'.out.trans (hb1.mono hb'.out.size);have hs1:=lhi (hs'.out.below hb1 hs'.out.lt);replace hown:=own_below hown hb1)
       | (at_builtin;refine wpList_append_at rfl _ _ 22 rfl (w.heap.size + 1) 5 i0 (.int .u8 0) 1 1 Tryz.underlying22 hi hz0 hI1.out hI2.out rfl (by decide) _ _ _ rfl (hown.alloc _) (some ⟨w1.heap.size,0,none⟩) 1 1 [.int .u8 (k : Int)] rfl rfl (src_new w1 [.int .u8 (k : Int)] 5) (by simp [Value.oneCell']) (by unfold maxLen;omega) (by omega) (by have:=hs1.out.lt;simp;omega) ?_;intro v3 w3 hown3 hg3 _;have hb3:=below_append (hbW.alloc hbW.size _) (ownsRow_less (hown.alloc _) (Nat.le_succ _)) (by have:=hbW.size;simp;omega) hg3))
      go_roundw
      case rel =>
       refine RelBy.mk ⟨k + 1,by omega,by go_num,(hs1.out.alloc _).grown hg3 (fun e => by have:=ownsRow_from hown _ e;omega),?_,hb3⟩
       rw [he.out,lla,bv_append]
       have ek : bv [UInt8.ofNat k] = [.int .u8 (k : Int)]:=by simp [bv];omega
       rw [ek];exact hown3
      case measure => simp [intOf];omega
  · obtain rfl : k = 256:=by omega
    go_wp2
    go_ret
    exact ⟨_,rfl,ownsRow_less hown (Nat.le_succ _),hb'.out⟩
end Go.Proofs.YtonjnagcdnmcpaaGreatDoor
