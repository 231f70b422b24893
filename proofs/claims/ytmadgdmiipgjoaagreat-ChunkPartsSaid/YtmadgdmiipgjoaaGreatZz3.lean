import Derived.Test.YtmadgdmiipgjoaaGreatZz2
namespace Go.Proofs.YtmadgdmiipgjoaaGreat
open Go.RowKit
set_option linter.unusedVariables false
set_option linter.unusedSimpArgs false
def M64' : Nat := 18446744073709551616
def ct (ls : List Nat) (k b : Nat) : Nat := (ls.take b).count k
theorem ct_zero (ls : List Nat) (k : Nat) : ct ls k 0 = 0 := by simp [ct]
theorem ct_step {ls : List Nat} {b n : Nat} (k : Nat) (h : ls[b]? = some n) : ct ls k (b + 1) = ct ls k b + if n = k then 1 else 0 := by
 unfold ct
 rw [List.take_add_one, h, List.count_append]
 simp only [Option.toList_some, List.count_singleton]
 by_cases e : n = k <;> simp [e]
theorem ct_all (ls : List Nat) (k b : Nat) (h : ls.length ≤ b) : ct ls k b = ls.count k := by unfold ct; rw [List.take_of_length_le h]
theorem ct_mono (ls : List Nat) (k : Nat) : ∀ d b, ct ls k b ≤ ct ls k (b + d)
 | 0, b => Nat.le_refl _
 | d + 1, b => by
  refine Nat.le_trans (ct_mono ls k d b) ?_
  rcases h : ls[b + d]? with _ | n
  ·unfold ct; rw [show b + (d + 1) = b + d + 1 by omega, List.take_add_one, h]; simp
  ·rw [show b + (d + 1) = b + d + 1 by omega, ct_step k h]; omega
theorem ct_le (ls : List Nat) (k : Nat) {b c : Nat} (h : b ≤ c) : ct ls k b ≤ ct ls k c := by
 have := ct_mono ls k (c - b) b
 rwa [show b + (c - b) = c by omega] at this
theorem ct_lt {ls : List Nat} {k i c : Nat} (h : ls[i]? = some k) (hc : i < c) : ct ls k i < ct ls k c := by
 have h1 := ct_step k h
 rw [if_pos rfl] at h1
 have := ct_le ls k (show i + 1 ≤ c by omega)
 omega
theorem ct_lt_all {ls : List Nat} {k i : Nat} (h : ls[i]? = some k) : ct ls k i < ls.count k := by
 have hi := (List.getElem?_eq_some_iff.1 h).1
 have := ct_lt h hi
 rwa [ct_all ls k _ (Nat.le_refl _)] at this
theorem ct_inj {ls : List Nat} {k i j : Nat} (h : ls[i]? = some k) (h' : ls[j]? = some k) (he : ct ls k i = ct ls k j) : i = j := by
 rcases Nat.lt_trichotomy i j with hl | hl | hl
 ·have := ct_lt h hl; omega
 ·exact hl
 ·have := ct_lt h' hl; omega
theorem ct_nth (ls : List Nat) (k : Nat) : ∀ c r, r < ct ls k c → ∃ i, i < c ∧ ls[i]? = some k ∧ ct ls k i = r
 | 0, r, h => by rw [ct_zero] at h; omega
 | c + 1, r, h => by
  rcases hg : ls[c]? with _ | n
  ·have e : ct ls k (c + 1) = ct ls k c := by unfold ct; rw [List.take_add_one, hg]; simp
   obtain ⟨i, h1, h2⟩ := ct_nth ls k c r (by omega)
   exact ⟨i, by omega, h2⟩
  ·rw [ct_step k hg] at h
   by_cases hr : r < ct ls k c
   ·obtain ⟨i, h1, h2⟩ := ct_nth ls k c r hr
    exact ⟨i, by omega, h2⟩
   ·by_cases hn : n = k
    ·rw [if_pos hn] at h
     exact ⟨c, by omega, by rw [hg, hn], by omega⟩
    ·rw [if_neg hn] at h; omega
def cod (ls : List Nat) (b : Nat) : Nat := b - ct ls 0 b
theorem cod_step {ls : List Nat} {b n : Nat} (h : ls[b]? = some n) (hc : ct ls 0 b ≤ b) : (b + 1) - ct ls 0 (b + 1) = (b - ct ls 0 b) + if n = 0 then 0 else 1 := by
 rw [ct_step 0 h]
 split <;> omega
theorem ct_le_b (ls : List Nat) (k b : Nat) : ct ls k b ≤ b := by
 unfold ct
 refine Nat.le_trans List.count_le_length ?_
 rw [List.length_take]; omega
def pre (ls : List Nat) : Nat → Nat
 | 0 => 0
 | k + 1 => pre ls k + if k = 0 then 0 else ls.count k
theorem pre_mono (ls : List Nat) : ∀ d k, pre ls k ≤ pre ls (k + d)
 | 0, k => Nat.le_refl _
 | d + 1, k => Nat.le_trans (pre_mono ls d k) (by rw [← Nat.add_assoc, pre]; omega)
theorem pre_le (ls : List Nat) {k j : Nat} (h : k ≤ j) : pre ls k ≤ pre ls j := by
 have := pre_mono ls (j - k) k
 rwa [show k + (j - k) = j by omega] at this
theorem sum_counts : ∀ (ls : List Nat) (m : Nat), (∀ x ∈ ls, x < m) → pre ls m + ls.count 0 = ls.length
 | [], m, _ => by
  have : ∀ m, pre [] m = 0 := fun m => by induction m with
   | zero => rfl
   | succ m ih => rw [pre, ih]; simp
  rw [this]; rfl
 | x :: ls, m, h => by
  have ih := sum_counts ls m (fun y hy => h y (List.mem_cons_of_mem _ hy))
  have hx := h x (by simp)
  have hp : ∀ m, pre (x :: ls) m = pre ls m + if 0 < x ∧ x < m then 1 else 0 := fun m => by
   induction m with
   | zero => simp [pre]
   | succ m ih2 =>
    rw [pre, pre, ih2]
    by_cases hm : m = 0
    ·subst hm; rw [if_pos rfl, if_pos rfl, if_neg (by omega), if_neg (by omega)]
    ·rw [if_neg hm, if_neg hm, List.count_cons]
     have e3 : (if (x == m) = true then 1 else 0) = if x = m then 1 else 0 := by simp
     rw [e3]
     split <;> split <;> split <;> omega
  rw [hp, List.count_cons, List.length_cons]
  have e3 : (if (x == 0) = true then 1 else 0) = if x = 0 then 1 else 0 := by simp
  rw [e3]
  split <;> split <;> omega
theorem pre_room {ls : List Nat} (hl : ls.length = 256) (h : ∀ x ∈ ls, x ≤ 56) {k i : Nat} (hk : 0 < k) (hi : ls[i]? = some k) : pre ls k + ct ls k i < cod ls 256 := by
 have h1 := sum_counts ls 57 (fun x hx => by have := h x hx; omega)
 have h2 := ct_lt_all hi
 have h3 : pre ls (k + 1) = pre ls k + ls.count k := by rw [pre, if_neg (by omega)]
 have h4 := h k (List.mem_of_getElem? hi)
 have h5 := pre_le ls (show k + 1 ≤ 57 by omega)
 unfold cod
 rw [ct_all ls 0 256 (by omega)]
 omega
def cnA (ls : List Nat) (b : Nat) : List Nat := (List.range 57).map fun k => if k = 0 then 0 else ct ls k b
def nxA (ls : List Nat) (b : Nat) : List Nat := (List.range 57).map fun k => if k = 0 then 0 else pre ls k + ct ls k b
def nxB (ls : List Nat) (m : Nat) : List Nat := (List.range 57).map fun k => if k ≤ m then pre ls k else 0
theorem mapR_get {n i : Nat} (f : Nat → Nat) (h : i < n) : ((List.range n).map f)[i]? = some (f i) := by simp [h]
theorem mapR_ext {n : Nat} {f g : Nat → Nat} (h : ∀ i, i < n → f i = g i) : (List.range n).map f = (List.range n).map g :=
 List.map_congr_left fun i hi => h i (List.mem_range.1 hi)
theorem mapR_set {n j x : Nat} (f g : Nat → Nat) (hj : j < n) (h1 : g j = x) (h2 : ∀ i, i < n → i ≠ j → f i = g i) : ((List.range n).map f).set j x = (List.range n).map g := by
 apply List.ext_getElem?
 intro i
 rw [List.getElem?_set]
 by_cases hi : i < n
 ·by_cases e : j = i
  ·subst e; simp [hi, h1]
  ·rw [if_neg e, mapR_get _ hi, mapR_get _ hi, h2 i hi (fun h => e h.symm)]
 ·rw [if_neg (by omega), List.getElem?_eq_none (by simp; omega), List.getElem?_eq_none (by simp; omega)]
theorem cnA_step {ls : List Nat} {b n : Nat} (h : ls[b]? = some n) (hn : 0 < n) (hn2 : n ≤ 56) : (cnA ls b).set n (ct ls n b + 1) = cnA ls (b + 1) := by
 unfold cnA
 refine mapR_set _ _ (by omega) ?_ (fun i hi he => ?_)
 ·rw [if_neg (by omega), ct_step n h, if_pos rfl]
 ·by_cases h0 : i = 0
  ·rw [if_pos h0, if_pos h0]
  ·rw [if_neg h0, if_neg h0, ct_step i h, if_neg (fun e => he e.symm)]; rfl
theorem cnA_same {ls : List Nat} {b : Nat} (h : ls[b]? = some 0) : cnA ls (b + 1) = cnA ls b := by
 unfold cnA
 refine mapR_ext fun i hi => ?_
 by_cases h0 : i = 0
 ·rw [if_pos h0, if_pos h0]
 ·rw [if_neg h0, if_neg h0, ct_step i h, if_neg (fun e => h0 e.symm)]; rfl
theorem nxA_step {ls : List Nat} {b n : Nat} (h : ls[b]? = some n) (hn : 0 < n) (hn2 : n ≤ 56) : (nxA ls b).set n (pre ls n + ct ls n b + 1) = nxA ls (b + 1) := by
 unfold nxA
 refine mapR_set _ _ (by omega) ?_ (fun i hi he => ?_)
 ·rw [if_neg (by omega), ct_step n h, if_pos rfl]; omega
 ·by_cases h0 : i = 0
  ·rw [if_pos h0, if_pos h0]
  ·rw [if_neg h0, if_neg h0, ct_step i h, if_neg (fun e => he e.symm)]; rfl
theorem nxA_same {ls : List Nat} {b : Nat} (h : ls[b]? = some 0) : nxA ls (b + 1) = nxA ls b := by
 unfold nxA
 refine mapR_ext fun i hi => ?_
 by_cases h0 : i = 0
 ·rw [if_pos h0, if_pos h0]
 ·rw [if_neg h0, if_neg h0, ct_step i h, if_neg (fun e => h0 e.symm)]; rfl
theorem nxB_step (ls : List Nat) (m : Nat) (hm : m + 1 < 57) : (nxB ls m).set (m + 1) (pre ls (m + 1)) = nxB ls (m + 1) := by
 unfold nxB
 refine mapR_set _ _ hm ?_ (fun i hi he => ?_)
 ·rw [if_pos (Nat.le_refl _)]
 ·by_cases h0 : i ≤ m
  ·rw [if_pos h0, if_pos (by omega)]
  ·rw [if_neg h0, if_neg (by omega)]
theorem nxB_end (ls : List Nat) : nxB ls 56 = nxA ls 0 := by
 unfold nxB nxA
 refine mapR_ext fun i hi => ?_
 rw [if_pos (by omega), ct_zero]
 by_cases h0 : i = 0
 ·rw [if_pos h0, h0]; rfl
 ·rw [if_neg h0]; rfl
def BkOk (ls bs : List Nat) (b : Nat) : Prop := bs.length = cod ls 256 ∧ ∀ i k, i < b → ls[i]? = some k → 0 < k → bs[pre ls k + ct ls k i]? = some i
theorem pre_apart {ls : List Nat} {i j k m : Nat} (hi : ls[i]? = some k) (hj : ls[j]? = some m) (hk : 0 < k) (hm : 0 < m) (he : pre ls k + ct ls k i = pre ls m + ct ls m j) : i = j := by
 have h1 := ct_lt_all hi
 have h2 := ct_lt_all hj
 rcases Nat.lt_trichotomy k m with hl | hl | hl
 ·have := pre_le ls (show k + 1 ≤ m by omega)
  rw [pre, if_neg (by omega)] at this; omega
 ·subst hl
  exact ct_inj hi hj (by omega)
 ·have := pre_le ls (show m + 1 ≤ k by omega)
  rw [pre, if_neg (by omega)] at this; omega
theorem bkOk_step {ls bs : List Nat} {b n : Nat} (h : BkOk ls bs b) (hb : ls[b]? = some n) (hn : 0 < n) (hr : pre ls n + ct ls n b < cod ls 256) : BkOk ls (bs.set (pre ls n + ct ls n b) b) (b + 1) := by
 refine ⟨by rw [List.length_set]; exact h.1, fun i k hi hk h0 => ?_⟩
 rw [List.getElem?_set]
 by_cases hib : i = b
 ·subst hib
  rw [hb] at hk
  have := Option.some.inj hk
  subst this
  rw [if_pos rfl, if_pos (by rw [h.1]; exact hr)]
 ·rw [if_neg (fun e => hib (pre_apart hk hb h0 hn e.symm))]
  exact h.2 i k (by omega) hk h0
theorem bkOk_same {ls bs : List Nat} {b : Nat} (h : BkOk ls bs b) (hb : ls[b]? = some 0) : BkOk ls bs (b + 1) :=
 ⟨h.1, fun i k hi hk h0 => by
  by_cases hib : i = b
  ·subst hib; rw [hb] at hk; have := Option.some.inj hk; omega
  ·exact h.2 i k (by omega) hk h0⟩
def fcM (ls : List Nat) : Nat → Nat
 | 0 => 0
 | k + 1 => (2 * ((fcM ls k + if k = 0 then 0 else ls.count k) % M64')) % M64'
theorem fcM_lt (ls : List Nat) (k : Nat) : fcM ls k < M64' := by
 cases k with
 | zero => show 0 < M64'; decide
 | succ k => exact Nat.mod_lt _ (by decide)
def cdV (ls : List Nat) (i : Nat) : Nat := (fcM ls (ls.getD i 0) + ct ls (ls.getD i 0) i) % M64'
def codL (ls : List Nat) : List Nat := (List.range 256).map fun i => if 0 < ls.getD i 0 then cdV ls i else 0
def cdP (ls : List Nat) (k r : Nat) : List Nat := (List.range 256).map fun i => if 0 < ls.getD i 0 ∧ (ls.getD i 0 < k ∨ (ls.getD i 0 = k ∧ ct ls k i < r)) then cdV ls i else 0
theorem getD_of {ls : List Nat} {i k : Nat} (h : ls[i]? = some k) : ls.getD i 0 = k := by rw [List.getD_eq_getElem?_getD, h]; rfl
theorem get_of {ls : List Nat} {i : Nat} (h : i < ls.length) : ls[i]? = some (ls.getD i 0) := by rw [List.getD_eq_getElem?_getD, List.getElem?_eq_getElem h]; rfl
theorem cdP_step {ls : List Nat} {k r i : Nat} (hl : ls.length = 256) (hk : 0 < k) (hi : ls[i]? = some k) (hr : ct ls k i = r) : (cdP ls k r).set i ((fcM ls k + r) % M64') = cdP ls k (r + 1) := by
 have hi2 : i < 256 := by have := (List.getElem?_eq_some_iff.1 hi).1; omega
 have hg := getD_of hi
 unfold cdP
 refine mapR_set _ _ hi2 ?_ (fun j hj he => ?_)
 ·rw [if_pos ⟨by omega, .inr ⟨hg, by omega⟩⟩]; unfold cdV; rw [hg, hr]
 ·by_cases hc : 0 < ls.getD j 0 ∧ (ls.getD j 0 < k ∨ (ls.getD j 0 = k ∧ ct ls k j < r))
  ·rw [if_pos hc, if_pos ⟨hc.1, hc.2.imp id (fun h => ⟨h.1, by omega⟩)⟩]
  ·rw [if_neg hc, if_neg (fun h => hc ⟨h.1, h.2.imp id (fun h => ⟨h.1, by
    rcases Nat.lt_or_ge (ct ls k j) r with h3 | h3
    ·exact h3
    ·exfalso
     have hj2 := get_of (ls := ls) (i := j) (by omega)
     rw [h.1] at hj2
     exact he (ct_inj hj2 hi (by omega))⟩)⟩)]
theorem cdP_next (ls : List Nat) (k : Nat) (hl : ls.length = 256) : cdP ls k (if k = 0 then 0 else ls.count k) = cdP ls (k + 1) 0 := by
 unfold cdP
 refine mapR_ext fun i hi => ?_
 have hg := get_of (ls := ls) (i := i) (by omega)
 by_cases h0 : 0 < ls.getD i 0
 ·by_cases h1 : ls.getD i 0 < k
  ·rw [if_pos ⟨h0, .inl h1⟩, if_pos ⟨h0, .inl (by omega)⟩]
  ·by_cases h2 : ls.getD i 0 = k
   ·rw [h2] at hg
    have := ct_lt_all hg
    rw [if_pos ⟨h0, .inr ⟨h2, by rw [if_neg (by omega)]; exact this⟩⟩, if_pos ⟨h0, .inl (by omega)⟩]
   ·rw [if_neg (by omega), if_neg (by omega)]
 ·rw [if_neg (by omega), if_neg (by omega)]
theorem cdP_start (ls : List Nat) : cdP ls 0 0 = List.replicate 256 0 := by
 have : cdP ls 0 0 = (List.range 256).map fun _ => 0 := mapR_ext fun i _ => by rw [if_neg (by omega)]
 rw [this, List.map_const', List.length_range]
theorem cdP_end {ls : List Nat} (h : ∀ x ∈ ls, x ≤ 56) (hl : ls.length = 256) : cdP ls 57 0 = codL ls := by
 unfold cdP codL
 refine mapR_ext fun i hi => ?_
 have hg := get_of (ls := ls) (i := i) (by omega)
 have := h _ (List.mem_of_getElem? hg)
 by_cases h0 : 0 < ls.getD i 0
 ·rw [if_pos ⟨h0, .inl (by omega)⟩, if_pos h0]
 ·rw [if_neg (by omega), if_neg h0]
def shF (acc n : Nat) : Nat := if n = 0 then acc else acc + 2 ^ (56 - n)
def shr (ls : List Nat) (b : Nat) : Nat := (ls.take b).foldl shF 0
theorem shr_step {ls : List Nat} {b n : Nat} (h : ls[b]? = some n) : shr ls (b + 1) = shF (shr ls b) n := by
 unfold shr; rw [List.take_add_one, h, List.foldl_append]; rfl
theorem shr_le (ls : List Nat) : ∀ b, shr ls b ≤ b * 2 ^ 55
 | 0 => by simp [shr]
 | b + 1 => by
  have ih := shr_le ls b
  rcases h : ls[b]? with _ | n
  ·have : shr ls (b + 1) = shr ls b := by unfold shr; rw [List.take_add_one, h]; simp
   generalize 2 ^ 55 = C at *
   rw [Nat.add_mul, Nat.one_mul]; omega
  ·rw [shr_step h]
   unfold shF
   split
   ·generalize 2 ^ 55 = C at *
    rw [Nat.add_mul, Nat.one_mul]; omega
   ·have : 2 ^ (56 - n) ≤ 2 ^ 55 := Nat.pow_le_pow_right (by decide) (by omega)
    omega
def wholeB (ls : List Nat) : Bool := decide (cod ls 256 = 0 ∨ (cod ls 256 = 1 ∧ ct ls 1 256 = 1) ∨ shr ls 256 = 72057594037927936)
def LOk (ls : List Nat) : Prop := ls.length = 256 ∧ ∀ n ∈ ls, n ≤ 56
theorem c8_get' {l : List Nat} {i n : Nat} (h : l[i]? = some n) : (c8 l).toArray[i]? = some (.int .u8 (n : Int)) := by simp [c8, h]
theorem LOk.get {ls : List Nat} (h : LOk ls) {i : Nat} (hi : i < 256) : ∃ n, ls[i]? = some n ∧ n ≤ 56 :=
 ⟨ls[i]'(by rw [h.1]; exact hi), List.getElem?_eq_getElem _, h.2 _ (List.getElem_mem _)⟩
theorem ix8 (ls : List Nat) (k : IntKind) (i n : Nat) (hi : i < 256) (hn : ls[i]? = some n) (w : World) : (Instr.index 78 (.agg (c8 ls).toArray) (.int k (i : Int))).run Tryz.prog w = .ok (.int .u8 (n : Int)) w :=
 run_index_arr 78 5 256 (c8 ls).toArray k i _ under8 isAgg8 sizeOf8 hi (c8_get' hn) w
set_option maxHeartbeats 1000000 in
set_option maxRecDepth 100000 in
theorem huffComplete (ls : List Nat) (w : World) (h : LOk ls) :
  Calls Tryz.prog 81 #[.agg (c8 ls).toArray] w fun e w' => e = .returned (.bool (wholeB ls)) ∧ Below w.heap.size w w' := by
 have hg := ix8 ls .i64
 have hlen : (c8 ls).length = 256 := by rw [c8_length]; exact h.1
 obtain ⟨L, hL⟩ : ∃ L, L = c8 ls := ⟨_, rfl⟩
 rw [← hL] at hg hlen ⊢
 have hi1 : (Tryz.prog.info? 78).map (·.size) = some L.length := by rw [hlen]; exact info8
 have HG := Lib.hid hg
 have H := Lib.hid h
 have HI1 := Lib.hid hi1
 clear hg h hL hi1
 have hb := Lib.hid ((Below.refl w.heap.size w).alloc (Nat.le_refl _) (.cells L.toArray 78))
 have HR0 := Lib.hid (arr_range (Lies.made w 78 L.toArray))
 go_enter Tryz.func81, Tryz.ntmps81
 go_wp2_with (refine wpList_load_mid rfl 78 _ rfl w.heap.size 0 rfl L _ HR0.out under8 rfl HI1.out ?_)
 clear HR0
 generalize w.alloc (.cells L.toArray 78) = w1 at *
 go_loopw [3, 4, 5, 9] (fun co on sh c wr => ∃ i : Nat, i ≤ 256 ∧ c = .int .i64 i ∧ co = .int .i64 (cod ls i : Nat) ∧ on = .int .i64 (ct ls 1 i : Nat) ∧ sh = .int .u64 (shr ls i : Nat) ∧ wr = w1)
  (fun _ _ _ c _ => 256 - (intOf c).toNat)
 case atStart => exact ⟨0, by omega, rfl, rfl, rfl, rfl, rfl⟩
 case round =>
  obtain ⟨i, hi, rfl, rfl, rfl, rfl, rfl⟩ := hrel
  have hc0 := ct_le_b ls 0 i
  have hc1 := ct_le_b ls 1 i
  have hsl := shr_le ls i
  by_cases hlt : i < 256
  ·have hii : (i : Int) < 256 := by omega
   obtain ⟨n, hn, hn56⟩ := H.out.get hlt
   have hix := HG.out i n hlt hn
   have hcs := cod_step hn hc0
   have h1s := ct_step 1 hn
   have hss := shr_step hn
   have HC : Hid (cod ls (i + 1) = cod ls i + if n = 0 then 0 else 1) := hcs
   have H1 := Lib.hid h1s
   have HS := Lib.hid hss
   have hcl : cod ls i ≤ 256 := by unfold cod; omega
   have hshl : shr ls i < 9223372036854775808 := by
    refine Nat.lt_of_le_of_lt hsl ?_
    calc i * 2 ^ 55 < 256 * 2 ^ 55 := by exact Nat.mul_lt_mul_of_pos_right hlt (by decide)
     _ = 9223372036854775808 := by decide
   clear hcs h1s hss hn hsl hc0
   generalize cod ls i = co at *
   generalize ct ls 1 i = on at *
   generalize shr ls i = sh at *
   by_cases h0 : n = 0
   ·have e1 : ((n : Int) == 0) = true := by simp; omega
    have e2 : (n == 0) = true := by simpa using h0
    have HC2 : Hid (cod ls (i + 1) = co) := by show _ = _; rw [HC.out, if_pos h0]; rfl
    have H12 : Hid (ct ls 1 (i + 1) = on) := by show _ = _; rw [H1.out, if_neg (by omega)]; rfl
    have HS2 : Hid (shr ls (i + 1) = sh) := by show _ = _; rw [HS.out]; unfold shF; rw [if_pos h0]
    clear h0 HC H1 HS
    go_wp2_with fail
    go_roundw
    case rel => exact ⟨i + 1, by omega, by go_num, by rw [HC2.out], by rw [H12.out], by rw [HS2.out], trivial⟩
    case measure => simp [intOf]; omega
   ·have e1 : ((n : Int) == 0) = false := by simp; omega
    have e2 : (n == 0) = false := by simpa using h0
    have HC2 : Hid (cod ls (i + 1) = co + 1) := by show _ = _; rw [HC.out, if_neg h0]
    have hp55 : 2 ^ (56 - n) ≤ 36028797018963968 := by
     have : 2 ^ (56 - n) ≤ 2 ^ 55 := Nat.pow_le_pow_right (by decide) (by omega)
     exact this
    obtain ⟨pw, hpw⟩ : ∃ pw, pw = 2 ^ (56 - n) := ⟨_, rfl⟩
    have HS2 : Hid (shr ls (i + 1) = sh + pw) := by show _ = _; rw [HS.out]; unfold shF; rw [if_neg h0, hpw]
    have ew : IntKind.u8.wrap (56 - (n : Int)) = ((56 - n : Nat) : Int) := by rw [IntKind.wrap_u8]; omega
    have es : (2 : Int) ^ (56 - n) = (pw : Int) := by rw [hpw]; exact (Int.natCast_pow 2 _).symm
    rw [← hpw] at hp55
    have HPW := Lib.hid hpw
    clear hpw
    by_cases hn1 : n = 1
    ·have e3 : ((n : Int) == 1) = true := by simp; omega
     have e4 : (n == 1) = true := by simpa using hn1
     have H12 : Hid (ct ls 1 (i + 1) = on + 1) := by show _ = _; rw [H1.out, if_pos hn1]
     clear h0 HC H1 HS hn1
     go_wp2_with fail
     go_roundw
     case rel => exact ⟨i + 1, by omega, by go_num, by rw [HC2.out]; go_num, by rw [H12.out]; go_num, by rw [HS2.out]; go_num, trivial⟩
     case measure => simp [intOf]; omega
    ·have e3 : ((n : Int) == 1) = false := by simp; omega
     have e4 : (n == 1) = false := by simpa using hn1
     have H12 : Hid (ct ls 1 (i + 1) = on) := by show _ = _; rw [H1.out, if_neg hn1]; rfl
     clear h0 HC H1 HS hn1
     go_wp2_with fail
     go_roundw
     case rel => exact ⟨i + 1, by omega, by go_num, by rw [HC2.out]; go_num, by rw [H12.out], by rw [HS2.out]; go_num, trivial⟩
     case measure => simp [intOf]; omega
  ·obtain rfl : i = 256 := by omega
   have hcl : cod ls 256 ≤ 256 := by unfold cod; omega
   have HW : Hid (wholeB ls = decide (cod ls 256 = 0 ∨ (cod ls 256 = 1 ∧ ct ls 1 256 = 1) ∨ shr ls 256 = 72057594037927936)) := rfl
   generalize cod ls 256 = co at *
   generalize ct ls 1 256 = on at *
   generalize shr ls 256 = sh at *
   clear hsl hc0
   by_cases hc : co = 0
   ·have HX : Hid (wholeB ls = true) := by show _ = _; rw [HW.out, decide_eq_true (.inl hc)]
    have e1 : ((co : Int) == 0) = true := by simp; omega
    have e2 : (co == 0) = true := by simpa using hc
    clear hc HW
    go_wp2
    go_ret
    exact ⟨ret_bool HX.out.symm, hb.out⟩
   ·have e1 : ((co : Int) == 0) = false := by simp; omega
    have e2 : (co == 0) = false := by simpa using hc
    by_cases hs : sh = 72057594037927936
    ·have HX : Hid (wholeB ls = true) := by show _ = _; rw [HW.out, decide_eq_true (.inr (.inr hs))]
     have e5 : ((sh : Int) == 72057594037927936) = true := by simp; omega
     have e6 : (sh == 72057594037927936) = true := by simpa using hs
     clear hs HW
     by_cases hc1' : co = 1
     ·have e3 : ((co : Int) == 1) = true := by simp; omega
      have e4 : (co == 1) = true := by simpa using hc1'
      by_cases ho : on = 1
      ·have e7 : ((on : Int) == 1) = true := by simp; omega
       have e8 : (on == 1) = true := by simpa using ho
       clear hc hc1' ho
       go_wp2
       go_ret
       exact ⟨ret_bool HX.out.symm, hb.out⟩
      ·have e7 : ((on : Int) == 1) = false := by simp; omega
       have e8 : (on == 1) = false := by simpa using ho
       clear hc hc1' ho
       go_wp2
       go_ret
       exact ⟨ret_bool HX.out.symm, hb.out⟩
     ·have e3 : ((co : Int) == 1) = false := by simp; omega
      have e4 : (co == 1) = false := by simpa using hc1'
      clear hc hc1'
      go_wp2
      go_ret
      exact ⟨ret_bool HX.out.symm, hb.out⟩
    ·have e5 : ((sh : Int) == 72057594037927936) = false := by simp; omega
     have e6 : (sh == 72057594037927936) = false := by simpa using hs
     by_cases hc1' : co = 1
     ·have e3 : ((co : Int) == 1) = true := by simp; omega
      have e4 : (co == 1) = true := by simpa using hc1'
      by_cases ho : on = 1
      ·have HX : Hid (wholeB ls = true) := by show _ = _; rw [HW.out, decide_eq_true (.inr (.inl ⟨hc1', ho⟩))]
       have e7 : ((on : Int) == 1) = true := by simp; omega
       have e8 : (on == 1) = true := by simpa using ho
       clear hc hc1' ho HW hs
       go_wp2
       go_ret
       exact ⟨ret_bool HX.out.symm, hb.out⟩
      ·have HX : Hid (wholeB ls = false) := by show _ = _; rw [HW.out, decide_eq_false (fun h => by omega)]
       have e7 : ((on : Int) == 1) = false := by simp; omega
       have e8 : (on == 1) = false := by simpa using ho
       clear hc hc1' ho HW hs
       go_wp2
       go_ret
       exact ⟨ret_bool HX.out.symm, hb.out⟩
     ·have HX : Hid (wholeB ls = false) := by show _ = _; rw [HW.out, decide_eq_false (fun h => by omega)]
      have e3 : ((co : Int) == 1) = false := by simp; omega
      have e4 : (co == 1) = false := by simpa using hc1'
      clear hc hc1' HW hs
      go_wp2
      go_ret
      exact ⟨ret_bool HX.out.symm, hb.out⟩
abbrev N2 := Nat × Nat
def kf (p : N2) : Nat := p.1 * 1024 + p.2
def gd (l : List N2) (i : Nat) : N2 := l.getD i (0, 0)
def K2 (l : List N2) (i : Nat) : Nat := kf (gd l i)
def swp (l : List N2) (i j : Nat) : List N2 := (l.set i (gd l j)).set j (gd l i)
def sonL (l : List N2) (n i : Nat) : Nat := if 2 * i + 2 < n ∧ K2 l (2 * i + 2) < K2 l (2 * i + 1) then 2 * i + 2 else 2 * i + 1
theorem sonL_gt (l : List N2) (n i : Nat) : i < sonL l n i := by unfold sonL; split <;> omega
theorem sonL_lt {l : List N2} {n i : Nat} (h : 2 * i + 1 < n) : sonL l n i < n := by unfold sonL; split <;> omega
theorem sonL_up (l : List N2) (n i : Nat) : (sonL l n i - 1) / 2 = i := by unfold sonL; split <;> omega
theorem sonL_le {l : List N2} {n i k : Nat} (hk : k < n) (h1 : 1 ≤ k) (hp : (k - 1) / 2 = i) : K2 l (sonL l n i) ≤ K2 l k := by
 have : k = 2 * i + 1 ∨ k = 2 * i + 2 := by omega
 unfold sonL
 rcases this with rfl | rfl
 ·split <;> omega
 ·split <;> omega
def downL (n i : Nat) (l : List N2) : List N2 :=
 if h : 2 * i + 1 < n then
  if K2 l (sonL l n i) < K2 l i then downL n (sonL l n i) (swp l i (sonL l n i)) else l
 else l
termination_by n - i
decreasing_by have := sonL_gt l n i; have := sonL_lt (l := l) h; omega
def upL (j : Nat) (l : List N2) : List N2 :=
 if h : 0 < j then
  if K2 l j < K2 l ((j - 1) / 2) then upL ((j - 1) / 2) (swp l ((j - 1) / 2) j) else l
 else l
termination_by j
decreasing_by omega
theorem swp_length (l : List N2) (i j : Nat) : (swp l i j).length = l.length := by simp [swp]
theorem gd_set (l : List N2) (i k : Nat) (x : N2) (hi : i < l.length) : gd (l.set i x) k = if i = k then x else gd l k := by
 unfold gd
 rw [List.getD_eq_getElem?_getD, List.getD_eq_getElem?_getD, List.getElem?_set]
 by_cases h : i = k
 ·subst h; simp [hi]
 ·simp [h]
theorem gd_swp {l : List N2} {i j : Nat} (hi : i < l.length) (hj : j < l.length) (k : Nat) : gd (swp l i j) k = if k = j then gd l i else if k = i then gd l j else gd l k := by
 unfold swp
 rw [gd_set _ _ _ _ (by simpa using hj), gd_set _ _ _ _ hi]
 by_cases h : k = j
 ·rw [if_pos h.symm, if_pos h]
 ·rw [if_neg (fun e => h e.symm), if_neg h]
  by_cases h2 : k = i
  ·rw [if_pos h2.symm, if_pos h2]
  ·rw [if_neg (fun e => h2 e.symm), if_neg h2]
theorem K2_swp {l : List N2} {i j : Nat} (hi : i < l.length) (hj : j < l.length) (k : Nat) : K2 (swp l i j) k = if k = j then K2 l i else if k = i then K2 l j else K2 l k := by
 unfold K2; rw [gd_swp hi hj]; by_cases h : k = j
 ·rw [if_pos h, if_pos h]
 ·rw [if_neg h, if_neg h]; by_cases h2 : k = i
  ·rw [if_pos h2, if_pos h2]
  ·rw [if_neg h2, if_neg h2]
theorem gd_get {l : List N2} {i : Nat} (h : i < l.length) : l[i]? = some (gd l i) := by
 unfold gd; rw [List.getD_eq_getElem?_getD, List.getElem?_eq_getElem h]; rfl
theorem gd_mem {l : List N2} {i : Nat} (h : i < l.length) : gd l i ∈ l := List.mem_of_getElem? (gd_get h)
theorem list_gd_ext {l m : List N2} (hl : l.length = m.length) (h : ∀ k, k < l.length → gd l k = gd m k) : l = m := by
 apply List.ext_getElem?
 intro k
 by_cases hk : k < l.length
 ·rw [gd_get hk, gd_get (by omega), h k hk]
 ·rw [List.getElem?_eq_none (by omega), List.getElem?_eq_none (by omega)]
theorem swp_perm_cons (x : N2) : ∀ (l : List N2) (j : Nat), j < l.length → (gd l j :: l.set j x).Perm (x :: l)
 | a :: l, 0, _ => by simpa [gd] using List.Perm.swap x a l
 | a :: l, j + 1, h => by
  have := swp_perm_cons x l j (by simpa using h)
  have e : gd (a :: l) (j + 1) = gd l j := by simp [gd]
  rw [e, List.set_cons_succ]
  exact ((List.Perm.swap a (gd l j) _).trans (this.cons a)).trans (List.Perm.swap x a l)
theorem swp_perm {l : List N2} {i j : Nat} (hi : i < l.length) (hj : j < l.length) : (swp l i j).Perm l := by
 by_cases hij : i = j
 ·subst hij
  have : swp l i i = l := list_gd_ext (swp_length _ _ _) (fun k _ => by
   rw [gd_swp hi hi]
   by_cases h : k = i
   ·rw [if_pos h, h]
   ·rw [if_neg h, if_neg h])
  rw [this]
 ·-- set i (l j), then set j (l i)
  have h1 := swp_perm_cons (gd l j) l i hi
  have h2 := swp_perm_cons (gd l i) (l.set i (gd l j)) j (by simpa using hj)
  have e : gd (l.set i (gd l j)) j = gd l j := by rw [gd_set _ _ _ _ hi, if_neg hij]
  rw [e] at h2
  exact List.Perm.cons_inv (a := gd l j) (h2.trans h1)
theorem downL_length (n i : Nat) (l : List N2) : (downL n i l).length = l.length := by
 fun_induction downL n i l with
 | case1 i l h h1 ih => rw [ih, swp_length]
 | case2 => rfl
 | case3 => rfl
theorem downL_perm (n i : Nat) (l : List N2) (hn : n ≤ l.length) : (downL n i l).Perm l := by
 fun_induction downL n i l with
 | case1 i l h h1 ih =>
  have := sonL_lt (l := l) h
  exact (ih (by rw [swp_length]; exact hn)).trans (swp_perm (by omega) (by omega))
 | case2 => exact List.Perm.refl _
 | case3 => exact List.Perm.refl _
theorem downL_far (n i : Nat) (l : List N2) (hn : n ≤ l.length) (k : Nat) (hk : n ≤ k) : gd (downL n i l) k = gd l k := by
 fun_induction downL n i l with
 | case1 i l h h1 ih =>
  have := sonL_lt (l := l) h
  rw [ih (by rw [swp_length]; exact hn), gd_swp (by omega) (by omega), if_neg (by omega), if_neg (by omega)]
 | case2 => rfl
 | case3 => rfl
def HeapF (l : List N2) (n i0 : Nat) : Prop := ∀ k, 1 ≤ k → k < n → i0 ≤ (k - 1) / 2 → K2 l ((k - 1) / 2) ≤ K2 l k
def HeapX (l : List N2) (n i0 i : Nat) : Prop := (∀ k, 1 ≤ k → k < n → i0 ≤ (k - 1) / 2 → (k - 1) / 2 ≠ i → K2 l ((k - 1) / 2) ≤ K2 l k) ∧
 (∀ k, 1 ≤ k → k < n → (k - 1) / 2 = i → 1 ≤ i → i0 ≤ (i - 1) / 2 → K2 l ((i - 1) / 2) ≤ K2 l k)
theorem downL_heap (n i i0 : Nat) (l : List N2) (hn : n ≤ l.length) (hi : i0 ≤ i) (h : HeapX l n i0 i) : HeapF (downL n i l) n i0 := by
 fun_induction downL n i l with
 | case1 i l hc h1 ih =>
  have hs := sonL_lt (l := l) hc
  have hg := sonL_gt l n i
  have hu := sonL_up l n i
  have hle : ∀ k, k < n → 1 ≤ k → (k - 1) / 2 = i → K2 l (sonL l n i) ≤ K2 l k := fun k a b c => sonL_le a b c
  generalize sonL l n i = j at *
  obtain ⟨ha, hb⟩ := h
  refine ih (by rw [swp_length]; exact hn) (by omega) ⟨fun k h1k hkn hik hne => ?_, fun k h1k hkn hkj h1j hij => ?_⟩
  ·rw [K2_swp (by omega) (by omega), K2_swp (by omega) (by omega)]
   by_cases hpi : (k - 1) / 2 = i
   ·rw [hpi, if_neg (by omega), if_pos rfl]
    by_cases hkj : k = j
    ·rw [if_pos hkj]; omega
    ·rw [if_neg hkj, if_neg (by omega)]; exact hle k hkn h1k hpi
   ·rw [if_neg hne, if_neg hpi]
    by_cases hki : k = i
    ·have := hb j (by omega) hs hu (by omega) (by omega)
     rw [if_neg (by omega), if_pos hki, hki]; exact this
    ·rw [if_neg (by omega), if_neg hki]; exact ha k h1k hkn hik hpi
  ·rw [K2_swp (by omega) (by omega), K2_swp (by omega) (by omega), hu, if_neg (by omega), if_pos rfl, if_neg (by omega), if_neg (by omega)]
   have := ha k h1k hkn (by omega) (by omega)
   rwa [hkj] at this
 | case2 i l hc h1 =>
  intro k h1k hkn hik
  by_cases hpi : (k - 1) / 2 = i
  ·have := sonL_le (l := l) hkn h1k hpi; rw [hpi]; omega
  ·exact h.1 k h1k hkn hik hpi
 | case3 i l hc =>
  intro k h1k hkn hik
  exact h.1 k h1k hkn hik (by omega)
theorem heapF_one (l : List N2) (n i0 : Nat) (h : n ≤ 2 * i0 + 1) : HeapF l n i0 := fun k _ _ _ => by omega
theorem heapX_of {l : List N2} {n i : Nat} (h : HeapF l n (i + 1)) : HeapX l n i i :=
 ⟨fun k a b c d => h k a b (by omega), fun k a b c d e => by omega⟩
def HeapU (l : List N2) (n j : Nat) : Prop := (∀ k, 1 ≤ k → k < n → k ≠ j → K2 l ((k - 1) / 2) ≤ K2 l k) ∧
 (∀ k, 1 ≤ k → k < n → (k - 1) / 2 = j → 1 ≤ j → K2 l ((j - 1) / 2) ≤ K2 l k)
theorem upL_length (j : Nat) (l : List N2) : (upL j l).length = l.length := by
 fun_induction upL j l with
 | case1 j l h h1 ih => rw [ih, swp_length]
 | case2 => rfl
 | case3 => rfl
theorem upL_perm (j : Nat) (l : List N2) (hn : j < l.length) : (upL j l).Perm l := by
 fun_induction upL j l with
 | case1 j l h h1 ih => exact (ih (by rw [swp_length]; omega)).trans (swp_perm (by omega) (by omega))
 | case2 => exact List.Perm.refl _
 | case3 => exact List.Perm.refl _
theorem upL_heap (j : Nat) (l : List N2) (hn : j < l.length) (h : HeapU l l.length j) : HeapF (upL j l) l.length 0 := by
 fun_induction upL j l with
 | case1 j l hc h1 ih =>
  obtain ⟨ha, hb⟩ := h
  have hl := swp_length l ((j - 1) / 2) j
  rw [hl] at ih
  refine ih (by omega) ⟨fun k h1k hkn hne => ?_, fun k h1k hkn hkj h1j => ?_⟩
  ·rw [K2_swp (by omega) (by omega), K2_swp (by omega) (by omega)]
   by_cases hpj : (k - 1) / 2 = j
   ·have := hb k h1k hkn hpj (by omega)
    rw [if_pos hpj, if_neg (by omega), if_neg hne]; exact this
   ·rw [if_neg hpj]
    by_cases hkj : k = j
    ·rw [if_pos hkj, hkj, if_pos rfl]; omega
    ·rw [if_neg hkj, if_neg hne]
     by_cases hpp : (k - 1) / 2 = (j - 1) / 2
     ·have := ha k h1k hkn hkj
      rw [if_pos hpp]; rw [hpp] at this; omega
     ·rw [if_neg hpp]; exact ha k h1k hkn hkj
  ·rw [K2_swp (by omega) (by omega), K2_swp (by omega) (by omega)]
   have hp := ha ((j - 1) / 2) h1j (by omega) (by omega)
   rw [if_neg (by omega), if_neg (by omega)]
   by_cases hkj' : k = j
   ·rw [if_pos hkj']; exact hp
   ·have := ha k h1k hkn hkj'
    rw [if_neg hkj', if_neg (by omega)]
    rw [hkj] at this; omega
 | case2 j l hc h1 =>
  intro k h1k hkn _
  by_cases hk : k = j
  ·rw [hk]; omega
  ·exact h.1 k h1k hkn hk
 | case3 j l hc =>
  intro k h1k hkn _
  exact h.1 k h1k hkn (by omega)
theorem heap_min {l : List N2} {n : Nat} (h : HeapF l n 0) : ∀ k, k < n → K2 l 0 ≤ K2 l k := by
 intro k
 induction k using Nat.strongRecOn with
 | _ k ih =>
  intro hk
  rcases Nat.eq_zero_or_pos k with rfl | h0
  ·exact Nat.le_refl _
  ·exact Nat.le_trans (ih ((k - 1) / 2) (by omega) (by omega)) (h k (by omega) hk (Nat.zero_le _))
theorem gd_append_left {l m : List N2} {k : Nat} (h : k < l.length) : gd (l ++ m) k = gd l k := by
 unfold gd; rw [List.getD_eq_getElem?_getD, List.getD_eq_getElem?_getD, List.getElem?_append_left h]
theorem push_heapU {l : List N2} (x : N2) (h : HeapF l l.length 0) : HeapU (l ++ [x]) (l ++ [x]).length l.length := by
 rw [List.length_append, List.length_singleton]
 refine ⟨fun k a b c => ?_, fun k a b c d => by omega⟩
 have := h k a (by omega) (Nat.zero_le _)
 unfold K2 at *
 rw [gd_append_left (by omega), gd_append_left (by omega)]
 exact this
def pushL (l : List N2) (x : N2) : List N2 := upL l.length (l ++ [x])
theorem pushL_heap {l : List N2} (x : N2) (h : HeapF l l.length 0) : HeapF (pushL l x) (pushL l x).length 0 := by
 unfold pushL
 rw [upL_length]
 exact upL_heap _ _ (by simp) (push_heapU x h)
theorem pushL_perm (l : List N2) (x : N2) : (pushL l x).Perm (x :: l) :=
 (upL_perm _ _ (by simp)).trans (List.perm_append_comm.trans (List.Perm.refl _))
def popL (l : List N2) : List N2 := downL (l.length - 1) 0 (swp l 0 (l.length - 1))
theorem popL_length (l : List N2) : (popL l).length = l.length := by unfold popL; rw [downL_length, swp_length]
theorem popL_last {l : List N2} (h : 0 < l.length) : gd (popL l) (l.length - 1) = gd l 0 := by
 unfold popL
 rw [downL_far _ _ _ (by rw [swp_length]; omega) _ (Nat.le_refl _), gd_swp h (by omega), if_pos rfl]
theorem heapF_take {l : List N2} {n : Nat} (hn : n ≤ l.length) (h : HeapF l n 0) : HeapF (l.take n) n 0 := by
 intro k a b c
 have hk : ∀ i, i < n → K2 (l.take n) i = K2 l i := fun i hi => by
  unfold K2 gd
  rw [List.getD_eq_getElem?_getD, List.getD_eq_getElem?_getD, List.getElem?_take_of_lt hi]
 rw [hk _ (by omega), hk _ b]
 exact h k a b c
theorem popL_heap {l : List N2} (h : HeapF l l.length 0) : HeapF ((popL l).take (l.length - 1)) (l.length - 1) 0 := by
 refine heapF_take (by rw [popL_length]; omega) ?_
 unfold popL
 rcases Nat.eq_zero_or_pos l.length with h0 | h0
 ·intro k a b; omega
 refine downL_heap _ _ _ _ (by rw [swp_length]; omega) (Nat.le_refl _) ⟨fun k a b c d => ?_, fun k a b c d => by omega⟩
 rw [K2_swp (by omega) (by omega), K2_swp (by omega) (by omega), if_neg (by omega), if_neg (by omega), if_neg (by omega), if_neg (by omega)]
 exact h k a (by omega) c
theorem popL_perm {l : List N2} (h : 0 < l.length) : (gd l 0 :: (popL l).take (l.length - 1)).Perm l := by
 have hp : (popL l).Perm l := by
  unfold popL
  exact (downL_perm _ _ _ (by rw [swp_length]; omega)).trans (swp_perm (by omega) (by omega))
 have hs : popL l = (popL l).take (l.length - 1) ++ [gd l 0] := by
  have hd := List.take_append_drop (l.length - 1) (popL l)
  have hlen : (popL l).length = l.length := popL_length l
  have hdr : (popL l).drop (l.length - 1) = [gd l 0] := by
   rw [← popL_last h, List.drop_eq_getElem_cons (by omega), List.drop_of_length_le (by omega)]
   have := gd_get (l := popL l) (i := l.length - 1) (by omega)
   rw [List.getElem?_eq_getElem (by omega)] at this
   injection this with this
   rw [this]
  rw [hdr] at hd
  exact hd.symm
 rw [hs] at hp
 exact (List.perm_append_comm (l₁ := (popL l).take (l.length - 1)) (l₂ := [gd l 0])).symm.trans hp
def initL : Nat → List N2 → List N2
 | 0, l => l
 | m + 1, l => initL m (downL l.length m l)
theorem initL_length : ∀ m l, (initL m l).length = l.length
 | 0, _ => rfl
 | m + 1, l => by rw [initL, initL_length, downL_length]
theorem initL_perm : ∀ m l, (initL m l).Perm l
 | 0, _ => List.Perm.refl _
 | m + 1, l => (initL_perm m _).trans (downL_perm _ _ _ (Nat.le_refl _))
theorem initL_heap : ∀ m l, HeapF l l.length m → HeapF (initL m l) l.length 0
 | 0, _, h => h
 | m + 1, l, h => by
  rw [initL]
  have := initL_heap m (downL l.length m l) (by rw [downL_length]; exact downL_heap _ _ _ _ (Nat.le_refl _) (Nat.le_refl _) (heapX_of h))
  rwa [downL_length] at this
theorem init_heap (l : List N2) : HeapF (initL (l.length / 2) l) l.length 0 := initL_heap _ _ (heapF_one _ _ _ (by omega))
def nodeC (p : N2) : List Value := [.int .u64 (p.1 : Int), .int .i64 (p.2 : Int)]
theorem nodeC_len (p : N2) : (nodeC p).length = 2 := rfl
def cellsN (l : List N2) : List Value := rowsOf nodeC l
def NdOk (l : List N2) : Prop := ∀ p ∈ l, p.1 < 18446744073709551616 ∧ p.2 < 1024
theorem ndOk_gd {l : List N2} (h : NdOk l) {i : Nat} (hi : i < l.length) : (gd l i).1 < 18446744073709551616 ∧ (gd l i).2 < 1024 := h _ (gd_mem hi)
theorem node_at {w : World} {B g n cap : Nat} {l : List N2} (h : w.ownsRow B 140 2 (.slice (some ⟨g, 0, none⟩) n cap) n (cellsN l)) {i : Nat} (hi : i < l.length) :
  w.cell? ⟨g, i * 2, none⟩ = some (.int .u64 ((gd l i).1 : Int)) ∧ w.cell? ⟨g, i * 2 + 1, none⟩ = some (.int .i64 ((gd l i).2 : Int)) := by
 have hg := gd_get hi
 have h0 := rowsOf_get nodeC_len hg (j := 0) (by decide)
 have h1 := rowsOf_get nodeC_len hg (j := 1) (by decide)
 have hn : l.length = n := (SeqS.of_owns h).len_ nodeC_len (by decide)
 exact ⟨by have := h.cellAt (i * 2) (by omega); rw [this]; exact h0, by have := h.cellAt (i * 2 + 1) (by omega); rw [this]; exact h1⟩
set_option maxHeartbeats 1000000 in
theorem huffLess (B g n cap : Nat) (l : List N2) (i j : Nat) (w : World) (h : w.ownsRow B 140 2 (.slice (some ⟨g, 0, none⟩) n cap) n (cellsN l)) (hok : NdOk l) (hi : i < n) (hj : j < n) (hb : n ≤ 1024) :
  Calls Tryz.prog 131 #[.slice (some ⟨g, 0, none⟩) n cap, .int .i64 i, .int .i64 j] w fun e w' => e = .returned (.bool (decide (K2 l i < K2 l j))) ∧ ∃ m, w' = w.drewN m := by
 have hn : l.length = n := (SeqS.of_owns h).len_ nodeC_len (by decide)
 obtain ⟨c0, c1⟩ := node_at h (i := i) (by omega)
 obtain ⟨d0, d1⟩ := node_at h (i := j) (by omega)
 have b1 := ndOk_gd hok (i := i) (by omega)
 have b2 := ndOk_gd hok (i := j) (by omega)
 obtain ⟨X, hX⟩ : ∃ X, X = decide (K2 l i < K2 l j) := ⟨_, rfl⟩
 rw [← hX]
 have hX2 : X = decide (kf (gd l i) < kf (gd l j)) := hX
 clear hX h hok hn
 have hi2 : (i : Int) < (n : Int) := by omega
 have hj2 : (j : Int) < (n : Int) := by omega
 generalize gd l i = p at *
 generalize gd l j = q at *
 obtain ⟨a, b⟩ := p
 obtain ⟨c, d⟩ := q
 simp only [kf] at c0 c1 d0 d1 b1 b2 hX2
 by_cases hac : a = c
 ·subst hac
  have e1 : ((a : Int) != (a : Int)) = false := by simp
  have HX : Hid (X = decide (b < d)) := by show X = _; rw [hX2]; congr 1; exact propext (by omega)
  clear hX2
  go_enter Tryz.func131, Tryz.ntmps131
  go_wp2
  go_quiet (fail)
  go_wp2
  go_quiet (fail)
  go_wp2
  go_ret
  exact ⟨ret_bool (by rw [HX.out]), _, by first | rfl | exact World.drewN_drewN _ _ _⟩
 ·have e1 : ((a : Int) != (c : Int)) = true := by simp; omega
  have HX : Hid (X = decide (a < c)) := by show X = _; rw [hX2]; congr 1; exact propext (by omega)
  clear hX2 hac
  go_enter Tryz.func131, Tryz.ntmps131
  go_wp2
  go_quiet (fail)
  go_wp2
  go_quiet (fail)
  go_wp2
  go_ret
  exact ⟨ret_bool (by rw [HX.out]), _, by first | rfl | exact World.drewN_drewN _ _ _⟩
theorem node_set {l : List N2} {i : Nat} (hi : i < l.length) (a b : Nat) : ((cellsN l).set (i * 2) (.int .u64 (a : Int))).set (i * 2 + 1) (.int .i64 (b : Int)) = cellsN (l.set i (a, b)) := by
 unfold cellsN
 rw [show i * 2 = i * 2 + 0 from rfl, rowsOf_set1 nodeC_len (gd_get hi) (by decide) (y := (a, (gd l i).2)) rfl, show i * 2 + 0 + 1 = i * 2 + 1 from rfl,
  rowsOf_set1 nodeC_len (l := l.set i (a, (gd l i).2)) (i := i) (x := (a, (gd l i).2)) (by simp [hi]) (by decide) (y := (a, b)) rfl, List.set_set]
theorem node_set' {w : World} {B g n cap : Nat} {l : List N2} (h : w.ownsRow B 140 2 (.slice (some ⟨g, 0, none⟩) n cap) n (cellsN l)) {i : Nat} (hi : i < l.length) (p : N2) :
  ((w.setCell ⟨g, i * 2, none⟩ (.int .u64 (p.1 : Int))).setCell ⟨g, i * 2 + 1, none⟩ (.int .i64 (p.2 : Int))).ownsRow B 140 2 (.slice (some ⟨g, 0, none⟩) n cap) n (cellsN (l.set i p)) := by
 have hl : (cellsN l).length = l.length * 2 := rowsOf_length nodeC_len l
 have h1 := owned_set (u := .int .u64 (p.1 : Int)) h (k := i * 2) (by omega)
 have h2 := owned_set (u := .int .i64 (p.2 : Int)) h1 (k := i * 2 + 1) (by simp; omega)
 rwa [node_set hi] at h2
set_option maxHeartbeats 1000000 in
theorem huffSwap (B g n cap : Nat) (l : List N2) (i j : Nat) (w : World) (h : w.ownsRow B 140 2 (.slice (some ⟨g, 0, none⟩) n cap) n (cellsN l)) (hi : i < n) (hj : j < n) (hb : n ≤ 1024) :
  Calls Tryz.prog 132 #[.slice (some ⟨g, 0, none⟩) n cap, .int .i64 i, .int .i64 j] w fun e w' => e = .returned (.tuple #[]) ∧ w'.ownsRow B 140 2 (.slice (some ⟨g, 0, none⟩) n cap) n (cellsN (swp l i j)) ∧ Kept (oneRow g) w w' := by
 have hn : l.length = n := (SeqS.of_owns h).len_ nodeC_len (by decide)
 obtain ⟨c0, c1⟩ := node_at h (i := i) (by omega)
 obtain ⟨d0, d1⟩ := node_at h (i := j) (by omega)
 have f0 := h.frozenAt (i * 2)
 have f1 := h.frozenAt (i * 2 + 1)
 have f2 := h.frozenAt (j * 2)
 have f3 := h.frozenAt (j * 2 + 1)
 have hi2 : (i : Int) < (n : Int) := by omega
 have hj2 : (j : Int) < (n : Int) := by omega
 have hA := node_set' (w := w) (l := l) h (i := i) (by omega) (gd l j)
 have hB := node_set' hA (i := j) (by simp; omega) (gd l i)
 have HB := Lib.hid hB
 obtain ⟨k0, k1⟩ := node_at hA (i := j) (by simp; omega)
 have k2 := hA.frozenAt (j * 2)
 have k3 := hA.frozenAt (j * 2 + 1)
 clear hA hB h hn
 generalize gd (l.set i (gd l j)) j = r at *
 obtain ⟨r0, r1⟩ := r
 simp only at k0 k1
 have hsw : (l.set i (gd l j)).set j (gd l i) = swp l i j := rfl
 have HSW := Lib.hid hsw
 generalize gd l i = p at *
 generalize gd l j = q at *
 obtain ⟨a, b⟩ := p
 obtain ⟨c, d⟩ := q
 simp only at c0 c1 d0 d1
 clear hsw
 go_enter Tryz.func132, Tryz.ntmps132
 go_wp2_with fail
 go_region
 all_goals (
  go_wp2
  refine bodyPost_end (v := .tuple #[]) (by simp [results, Tryz.results132, go_sem]) rfl ?_
  exact ⟨rfl, by rw [← HSW.out]; exact HB.out, ((((Kept.put w g _ _).trans (Kept.put _ g _ _) (fun _ _ h => h)).trans (Kept.put _ g _ _) (fun _ _ h => h)).trans (Kept.put _ g _ _) (fun _ _ h => h)).trans (Kept.drewN _ _ 1) (fun _ _ h => h)⟩)
def hpI (g : Nat) : Value := .iface 141 (.pointer (some ⟨g, 0, none⟩))
def trS (r N cap : Nat) : Value := .slice (some ⟨r, 0, none⟩) N cap
def TrAt (w : World) (B g r N cap : Nat) (l : List N2) : Prop := Lies w g 112 #[trS r N cap] ∧ w.ownsRow B 140 2 (trS r N cap) N (cellsN l) ∧ NdOk l ∧ N ≤ 1024
theorem met_eq1 (a : Addr) (w : World) : (method 279 141 (.pointer (some a)) "Len").run Tryz.prog w = (loadVar 112 a >>= fun v => pure (130, v)).run Tryz.prog w := by kernel_rfl
theorem met_eq2 (a : Addr) (w : World) : (method 279 141 (.pointer (some a)) "Less").run Tryz.prog w = (loadVar 112 a >>= fun v => pure (131, v)).run Tryz.prog w := by kernel_rfl
theorem met_eq3 (a : Addr) (w : World) : (method 279 141 (.pointer (some a)) "Swap").run Tryz.prog w = (loadVar 112 a >>= fun v => pure (132, v)).run Tryz.prog w := by kernel_rfl
theorem met_len (a : Addr) (v : Value) (w : World) (h : w.cell? a = some v) : (method 279 141 (.pointer (some a)) "Len").run Tryz.prog w = .ok (130, v) w := by
 rw [met_eq1]; go_simp
theorem met_less (a : Addr) (v : Value) (w : World) (h : w.cell? a = some v) : (method 279 141 (.pointer (some a)) "Less").run Tryz.prog w = .ok (131, v) w := by
 rw [met_eq2]; go_simp
theorem met_swap (a : Addr) (v : Value) (w : World) (h : w.cell? a = some v) : (method 279 141 (.pointer (some a)) "Swap").run Tryz.prog w = .ok (132, v) w := by
 rw [met_eq3]; go_simp
theorem nil_len (a : Addr) (w : World) : (nilAhead 279 141 (.pointer (some a)) "Len").run Tryz.prog w = .ok (some false) w := by kernel_rfl
theorem nil_less (a : Addr) (w : World) : (nilAhead 279 141 (.pointer (some a)) "Less").run Tryz.prog w = .ok (some false) w := by kernel_rfl
theorem nil_swap (a : Addr) (w : World) : (nilAhead 279 141 (.pointer (some a)) "Swap").run Tryz.prog w = .ok (some false) w := by kernel_rfl
section
variable {w w' : World} {B g r N cap : Nat} {l : List N2}
theorem TrAt.cell (h : TrAt w B g r N cap l) : w.cell? ⟨g, 0, none⟩ = some (trS r N cap) := (h.1.cell 0).trans rfl
theorem TrAt.len (h : TrAt w B g r N cap l) : l.length = N := (SeqS.of_owns h.2.1).len_ nodeC_len (by decide)
theorem TrAt.ne (h : TrAt w B g r N cap l) : g ≠ r := by
 intro e
 obtain ⟨cur, hl⟩ : ∃ cur, Lies w r 140 cur := by
  rcases owns_row h.2.1 with ⟨h1, _⟩ | ⟨r', _, cur, h1, _, h2, _⟩
  ·cases h1
  ·simp only [trS, Value.slice.injEq, Option.some.injEq, Addr.mk.injEq] at h1
   obtain ⟨⟨rfl, _⟩, _⟩ := h1
   exact ⟨cur, h2⟩
 subst e
 exact absurd (h.1.same hl).1 (by decide)
theorem TrAt.drewN (h : TrAt w B g r N cap l) (m : Nat) : TrAt (w.drewN m) B g r N cap l := h
theorem lessC (h : TrAt w B g r N cap l) (i j : Nat) (hi : i < N) (hj : j < N) : Calls Tryz.prog 131 #[trS r N cap, .int .i64 i, .int .i64 j] w fun e w' => e = .returned (.bool (decide (K2 l i < K2 l j))) ∧ ∃ m, w' = w.drewN m :=
 huffLess B r N cap l i j w h.2.1 h.2.2.1 hi hj h.2.2.2
theorem swapC (h : TrAt w B g r N cap l) (i j : Nat) (hi : i < N) (hj : j < N) : Calls Tryz.prog 132 #[trS r N cap, .int .i64 i, .int .i64 j] w fun e w' => e = .returned (.tuple #[]) ∧ TrAt w' B g r N cap (swp l i j) ∧ Kept (oneRow r) w w' := by
 have hl := h.len
 refine (huffSwap B r N cap l i j w h.2.1 hi hj h.2.2.2).mono ?_
 rintro e w' ⟨rfl, ho, hk⟩
 exact ⟨rfl, ⟨h.1.kept hk (fun e => h.ne e), ho, fun p hp => h.2.2.1 p ((swp_perm (by omega) (by omega)).mem_iff.1 hp), h.2.2.2⟩, hk⟩
theorem lenC (w : World) (r N cap : Nat) : Calls Tryz.prog 130 #[trS r N cap] w fun e w' => e = .returned (.int .i64 N) ∧ w = w' := by
 unfold trS
 go_enter Tryz.func130, Tryz.ntmps130
 go_wp2
 go_ret
 exact ⟨rfl, rfl⟩
end
set_option maxHeartbeats 1000000 in
set_option maxRecDepth 100000 in
theorem heapDown (B g r N cap : Nat) (l : List N2) (i0 n : Nat) (w : World) (h : TrAt w B g r N cap l) (hn : n ≤ N) (hi : i0 < 1024) :
  Calls Tryz.prog 109 #[hpI g, .int .i64 i0, .int .i64 n] w fun e w' => (∃ b, e = .returned (.bool b)) ∧ TrAt w' B g r N cap (downL n i0 l) ∧ Kept (oneRow r) w w' := by
 have hN := h.2.2.2
 have H := Lib.hid h
 clear h
 unfold hpI
 go_enter Tryz.func109, Tryz.ntmps109
 go_wp2
 go_loopw [7] (fun t wr => ∃ (i : Nat) (cur : List N2), i < 4096 ∧ t = .int .i64 i ∧ Hid (downL n i0 l = downL n i cur) ∧ TrAt wr B g r N cap cur ∧ Kept (oneRow r) w wr)
  (fun t _ => 4096 - (intOf t).toNat)
 case atStart => exact ⟨i0, l, by omega, rfl, rfl, H.out, Kept.refl _ _⟩
 case round =>
  clear H
  obtain ⟨i, cur, hi4, rfl, hD, hT, hk2⟩ := hrel
  by_cases hc : 2 * i + 1 < n
  ·obtain ⟨j1, hj1⟩ : ∃ j1 : Nat, j1 = 2 * i + 1 := ⟨_, rfl⟩
   obtain ⟨j2, hj2⟩ : ∃ j2 : Nat, j2 = j1 + 1 := ⟨_, rfl⟩
   have q1 : 2 * (i : Int) + 1 = (j1 : Int) := by omega
   have q2 : (j1 : Int) + 1 = (j2 : Int) := by omega
   have x1 : decide ((n : Int) ≤ (j1 : Int)) = false := by simp; omega
   have x2 : decide ((j1 : Int) < 0) = false := by simp
   have x4 : decide (n ≤ j1) = false := by simp; omega
   have HJ1 := Lib.hid hj1
   have HJ2 := Lib.hid hj2
   have hin : i < N := by omega
   have hj1n : j1 < n := by omega
   by_cases hc2 : j2 < n
   ·have x3 : decide ((j2 : Int) < (n : Int)) = true := by simp; omega
    have x5 : decide (j2 < n) = true := by simpa using hc2
    have m3 := met_less ⟨g, 0, none⟩ _ _ hT.cell
    have m4 := nil_less ⟨g, 0, none⟩
    clear hj1 hj2
    go_wp2_with fail
    refine (lessC hT j2 j1 (by omega) (by omega)).mono ?_
    rintro e w4 ⟨rfl, k4, rfl⟩
    have hT := hT.drewN k4
    have hk2 := hk2.trans (Kept.drewN (oneRow r) _ k4) (fun _ _ h => h)
    generalize World.drewN _ k4 = w4 at *
    clear m3 m4
    by_cases hX : K2 cur j2 < K2 cur j1
    ·have e1 : decide (K2 cur j2 < K2 cur j1) = true := by simpa using hX
     have HS : Hid (sonL cur n i = j2) := by
      show _ = _
      unfold sonL; rw [← show j2 = 2 * i + 2 by rw [HJ2.out, HJ1.out], ← HJ1.out, if_pos ⟨hc2, hX⟩]
     clear hX
     have hjgt : i < j2 := by have := sonL_gt cur n i; rw [HS.out] at this; exact this
     have hjlt : j2 < n := by have := sonL_lt (l := cur) hc; rw [HS.out] at this; exact this
     have m3 := met_less ⟨g, 0, none⟩ _ _ hT.cell
     have m4 := nil_less ⟨g, 0, none⟩
     go_wp2_with fail
     refine (lessC hT j2 i (by omega) (by omega)).mono ?_
     rintro e w4 ⟨rfl, k4, rfl⟩
     have hT := hT.drewN k4
     have hk2 := hk2.trans (Kept.drewN (oneRow r) _ k4) (fun _ _ h => h)
     generalize World.drewN _ k4 = w4 at *
     clear m3 m4
     by_cases hX2 : K2 cur j2 < K2 cur i
     ·have e2 : decide (K2 cur j2 < K2 cur i) = true := by simpa using hX2
      have m3 := met_swap ⟨g, 0, none⟩ _ _ hT.cell
      have m4 := nil_swap ⟨g, 0, none⟩
      have HD2 : Hid (downL n i0 l = downL n j2 (swp cur i j2)) := by
       show _ = _
       rw [hD.out]
       conv => lhs; unfold downL
       rw [dif_pos hc, HS.out, if_pos hX2]
      clear hX2 hD
      go_wp2_with fail
      refine (swapC hT i j2 (by omega) (by omega)).mono ?_
      rintro e w5 ⟨rfl, hT2, hk5⟩
      clear m3 m4 hT e2
      have hk6 := hk2.trans hk5 (fun _ _ h => h)
      clear hk2 hk5
      go_wp2
      go_roundw
      case rel => exact ⟨j2, _, by omega, by go_num, HD2, hT2, hk6⟩
      case measure => simp [intOf]; omega
     ·have e2 : decide (K2 cur j2 < K2 cur i) = false := by simpa using hX2
      have HD2 : Hid (downL n i0 l = cur) := by
       show _ = _
       rw [hD.out]
       conv => lhs; unfold downL
       rw [dif_pos hc, HS.out, if_neg hX2]
      clear hX2 hD
      go_wp2
      go_ret
      exact ⟨⟨_, rfl⟩, by rw [HD2.out]; exact hT, hk2⟩
    ·have e1 : decide (K2 cur j2 < K2 cur j1) = false := by simpa using hX
     have HS : Hid (sonL cur n i = j1) := by
      show _ = _
      unfold sonL; rw [← show j2 = 2 * i + 2 by rw [HJ2.out, HJ1.out], ← HJ1.out, if_neg (fun h => hX h.2)]
     clear hX
     have hjgt : i < j1 := by have := sonL_gt cur n i; rw [HS.out] at this; exact this
     have hjlt : j1 < n := by have := sonL_lt (l := cur) hc; rw [HS.out] at this; exact this
     have m3 := met_less ⟨g, 0, none⟩ _ _ hT.cell
     have m4 := nil_less ⟨g, 0, none⟩
     go_wp2_with fail
     refine (lessC hT j1 i (by omega) (by omega)).mono ?_
     rintro e w4 ⟨rfl, k4, rfl⟩
     have hT := hT.drewN k4
     have hk2 := hk2.trans (Kept.drewN (oneRow r) _ k4) (fun _ _ h => h)
     generalize World.drewN _ k4 = w4 at *
     clear m3 m4
     by_cases hX2 : K2 cur j1 < K2 cur i
     ·have e2 : decide (K2 cur j1 < K2 cur i) = true := by simpa using hX2
      have m3 := met_swap ⟨g, 0, none⟩ _ _ hT.cell
      have m4 := nil_swap ⟨g, 0, none⟩
      have HD2 : Hid (downL n i0 l = downL n j1 (swp cur i j1)) := by
       show _ = _
       rw [hD.out]
       conv => lhs; unfold downL
       rw [dif_pos hc, HS.out, if_pos hX2]
      clear hX2 hD
      go_wp2_with fail
      refine (swapC hT i j1 (by omega) (by omega)).mono ?_
      rintro e w5 ⟨rfl, hT2, hk5⟩
      clear m3 m4 hT e2
      have hk6 := hk2.trans hk5 (fun _ _ h => h)
      clear hk2 hk5
      go_wp2
      go_roundw
      case rel => exact ⟨j1, _, by omega, by go_num, HD2, hT2, hk6⟩
      case measure => simp [intOf]; omega
     ·have e2 : decide (K2 cur j1 < K2 cur i) = false := by simpa using hX2
      have HD2 : Hid (downL n i0 l = cur) := by
       show _ = _
       rw [hD.out]
       conv => lhs; unfold downL
       rw [dif_pos hc, HS.out, if_neg hX2]
      clear hX2 hD
      go_wp2
      go_ret
      exact ⟨⟨_, rfl⟩, by rw [HD2.out]; exact hT, hk2⟩
   ·have x3 : decide ((j2 : Int) < (n : Int)) = false := by simp; omega
    have x5 : decide (j2 < n) = false := by simpa using hc2
    have HS : Hid (sonL cur n i = j1) := by
     show _ = _
     unfold sonL; rw [← show j2 = 2 * i + 2 by rw [HJ2.out, HJ1.out], ← HJ1.out, if_neg (fun h => hc2 h.1)]
    clear hj1 hj2
    have hjgt : i < j1 := by have := sonL_gt cur n i; rw [HS.out] at this; exact this
    have hjlt : j1 < n := by have := sonL_lt (l := cur) hc; rw [HS.out] at this; exact this
    have m3 := met_less ⟨g, 0, none⟩ _ _ hT.cell
    have m4 := nil_less ⟨g, 0, none⟩
    go_wp2_with fail
    refine (lessC hT j1 i (by omega) (by omega)).mono ?_
    rintro e w4 ⟨rfl, k4, rfl⟩
    have hT := hT.drewN k4
    have hk2 := hk2.trans (Kept.drewN (oneRow r) _ k4) (fun _ _ h => h)
    generalize World.drewN _ k4 = w4 at *
    clear m3 m4
    by_cases hX2 : K2 cur j1 < K2 cur i
    ·have e2 : decide (K2 cur j1 < K2 cur i) = true := by simpa using hX2
     have m3 := met_swap ⟨g, 0, none⟩ _ _ hT.cell
     have m4 := nil_swap ⟨g, 0, none⟩
     have HD2 : Hid (downL n i0 l = downL n j1 (swp cur i j1)) := by
      show _ = _
      rw [hD.out]
      conv => lhs; unfold downL
      rw [dif_pos hc, HS.out, if_pos hX2]
     clear hX2 hD
     go_wp2_with fail
     refine (swapC hT i j1 (by omega) (by omega)).mono ?_
     rintro e w5 ⟨rfl, hT2, hk5⟩
     clear m3 m4 hT e2
     have hk6 := hk2.trans hk5 (fun _ _ h => h)
     clear hk2 hk5
     go_wp2
     go_roundw
     case rel => exact ⟨j1, _, by omega, by go_num, HD2, hT2, hk6⟩
     case measure => simp [intOf]; omega
    ·have e2 : decide (K2 cur j1 < K2 cur i) = false := by simpa using hX2
     have HD2 : Hid (downL n i0 l = cur) := by
      show _ = _
      rw [hD.out]
      conv => lhs; unfold downL
      rw [dif_pos hc, HS.out, if_neg hX2]
     clear hX2 hD
     go_wp2
     go_ret
     exact ⟨⟨_, rfl⟩, by rw [HD2.out]; exact hT, hk2⟩
  ·have x1 : decide ((n : Int) ≤ 2 * (i : Int) + 1) = true := by simp; omega
   have HD2 : Hid (downL n i0 l = cur) := by
    show _ = _
    rw [hD.out]
    conv => lhs; unfold downL
    rw [dif_neg hc]
   clear hc hD
   go_wp2
   go_ret
   exact ⟨⟨_, rfl⟩, by rw [HD2.out]; exact hT, hk2⟩
def nodeV (p : N2) : Value := .agg #[.int .u64 (p.1 : Int), .int .i64 (p.2 : Int)]
def ndI (p : N2) : Value := .iface 140 (nodeV p)
def twoRows (g r : Nat) : Nat → Prop := fun k => k = g ∨ k = r
set_option maxHeartbeats 1000000 in
set_option maxRecDepth 100000 in
theorem trPop (B g r N cap : Nat) (l : List N2) (w : World) (h : TrAt w B g r (N + 1) cap l) :
  Calls Tryz.prog 135 #[.pointer (some ⟨g, 0, none⟩)] w fun e w' => e = .returned (ndI (gd l N)) ∧ TrAt w' B g r N cap (l.take N) ∧ Kept (oneRow g) w w' := by
 have hl := h.len
 obtain ⟨c0, c1⟩ := node_at h.2.1 (i := N) (by omega)
 have cg := h.cell
 have fg := h.1.free 0
 have hcap : N + 1 ≤ cap ∧ cap ≤ maxLen := by
  rcases owns_row h.2.1 with ⟨h1, _⟩ | ⟨r', _, cur, h1, _, h2, h3, h4⟩
  ·cases h1
  ·simp only [trS, Value.slice.injEq] at h1
   obtain ⟨_, _, rfl⟩ := h1
   exact ⟨h3, h4⟩
 unfold maxLen at hcap
 have hN := h.2.2.2
 have H := Lib.hid h
 obtain ⟨W, hW⟩ : ∃ W, W = gd l N := ⟨_, rfl⟩
 rw [← hW] at c0 c1 ⊢
 obtain ⟨a, b⟩ := W
 simp only at c0 c1
 unfold trS at cg
 clear h hW hl
 have x1 : ((N + 1 : Nat) : Int) - 1 = (N : Int) := by omega
 go_enter Tryz.func135, Tryz.ntmps135
 have hgl := H.out.1.lt
 have ca : ∀ o, (w.alloc o).cell? ⟨g, 0, none⟩ = some (Value.slice (some ⟨r, 0, none⟩) (N + 1) cap) := fun o => ((H.out.1.alloc o).cell 0).trans rfl
 have fa : ∀ o, (w.alloc o).frozen? ⟨g, 0, none⟩ = false := fun o => (H.out.1.alloc o).free 0
 go_wp2
 go_ret
 have hk := (Kept.put w g 0 (Value.slice (some ⟨r, 0, none⟩) N cap)).trans (Kept.alloc (oneRow g) _ (.cells #[.int .u64 (a : Int), .int .i64 (b : Int)] 140)) (fun _ _ h => h)
 have h1 := (H.out.1.put 0 (Value.slice (some ⟨r, 0, none⟩) N cap))
 have h2 := owns_put (owns_cut nodeC_len H.out.2.1 (Nat.le_succ N)) H.out.1 (by decide) 0 (Value.slice (some ⟨r, 0, none⟩) N cap)
 exact ⟨rfl, ⟨h1.alloc _, h2.alloc _, fun p hp => H.out.2.2.1 p (List.mem_of_mem_take hp), by omega⟩, hk⟩
theorem infoNode : (Tryz.prog.info? 140).map (fun i => (i.zero, i.size, i.bytes)) = some (some (.agg #[.int .u64 0, .int .i64 0]), 2, 16) := by kernel_rfl
set_option maxHeartbeats 1000000 in
set_option maxRecDepth 100000 in
theorem trPush (B g r N cap : Nat) (l : List N2) (p : N2) (w : World) (h : TrAt w B g r N cap l) (hN : N + 1 ≤ 1024) (hp : p.1 < 18446744073709551616 ∧ p.2 < 1024) (hB : B ≤ w.heap.size) :
  Calls Tryz.prog 136 #[.pointer (some ⟨g, 0, none⟩), ndI p] w fun e w' => e = .returned (.tuple #[]) ∧ (∃ r' cap', TrAt w' B g r' (N + 1) cap' (l ++ [p]) ∧ (r' = r ∨ w.heap.size ≤ r')) ∧ Kept (twoRows g r) w w' := by
 have cg := h.cell
 have fg := h.1.free 0
 have H := Lib.hid h
 unfold trS at cg
 clear h
 obtain ⟨a, b⟩ := p
 unfold ndI nodeV
 simp only
 have hgl := H.out.1.lt
 have hta : ∀ (v : Value) (w : World), (Instr.typeAssert (.iface 140 v) 20 140 true).run Tryz.prog w = .ok (.tuple #[v, .bool true]) w := fun v w => by kernel_rfl
 obtain ⟨i0, hi, hz0, hz1, hz2⟩ := info_parts infoNode
 go_enter Tryz.func136, Tryz.ntmps136
 go_wp2
 have HA : Hid (TrAt (w.alloc (.cells #[.int .u64 (a : Int), .int .i64 (b : Int)] 140)) B g r N cap l) := ⟨H.out.1.alloc _, H.out.2.1.alloc _, H.out.2.2⟩
 have ln := Lies.made w 140 #[.int .u64 (a : Int), .int .i64 (b : Int)]
 have d0 := (ln.cell 0).trans (show _ = some (Value.int .u64 (a : Int)) from rfl)
 have d1 := (ln.cell 1).trans (show _ = some (Value.int .i64 (b : Int)) from rfl)
 have hka := Kept.alloc (twoRows g r) w (.cells #[.int .u64 (a : Int), .int .i64 (b : Int)] 140)
 have HKA := Lib.hid hka
 have hsz : (w.alloc (.cells #[.int .u64 (a : Int), .int .i64 (b : Int)] 140)).heap.size = w.heap.size + 1 := by simp
 clear ln hka cg fg
 generalize (w.alloc (.cells #[.int .u64 (a : Int), .int .i64 (b : Int)] 140)) = wA at *
 have cg : wA.cell? ⟨g, 0, none⟩ = some (Value.slice (some ⟨r, 0, none⟩) N cap) := HA.out.cell
 have fg := HA.out.1.free 0
 have hgl : g < wA.heap.size := by omega
 have hq : w.heap.size < wA.heap.size := by omega
 have hBA : B ≤ wA.heap.size := by omega
 clear hsz
 go_region_law (refine step_append_lies _ rfl (.tmp 15) (.tmp 17) 112 rfl B 140 i0 (.agg #[.int .u64 0, .int .i64 0]) 2 16 Tryz.underlying112 hi hz0 hz1 hz2 rfl (by omega) _ N _ rfl ((show World.ownsRow wA.drew _ _ _ _ _ _ from HA.out.2.1).alloc _) ⟨wA.heap.size, 0, none⟩ 1 1 [.int .u64 (a : Int), .int .i64 (b : Int)] rfl rfl (World.news_of_block (Lies.made wA.drew 140 #[.int .u64 (a : Int), .int .i64 (b : Int)])) (fun u hu => by simp at hu; rcases hu with rfl | rfl <;> rfl) (by omega) (by unfold maxLen; omega) (by omega) (by simp; omega) (wA.heap.size + 1) (by simp) ?_; intro gh caph w6 ho6 hg6 hgh hg6l; have l6 := ((Lies.drew HA.out.1).alloc (.cells #[.int .u64 (a : Int), .int .i64 (b : Int)] 140)).kept (Kept.of_grown hg6) (own_ne HA.out.2.1 HA.out.1 (by decide)); have e1 := (l6.cell 0).trans (show _ = some (Value.slice (some ⟨r, 0, none⟩) N cap) from rfl); have e2 := l6.free 0)
 all_goals (
  have hk6 : Kept (twoRows g r) wA w6 := ((Kept.drew _ wA).trans (kept_grown hg6) (fun _ _ h => h)).mono (fun k _ hk => by
   have hk' : some r = some k := hk
   exact .inr (Option.some.inj hk').symm)
  have hk7 := (HKA.out.trans hk6 (fun _ _ h => h)).trans ((Kept.put w6 g 0 (.slice (some ⟨gh, 0, none⟩) (N + 1) caph)).mono (fun k _ hk => show twoRows g r k from Or.inl hk)) (fun _ _ h => h)
  have l7 := l6.put 0 (.slice (some ⟨gh, 0, none⟩) (N + 1) caph)
  have ho7 := owns_put ho6 l6 (by decide) 0 (.slice (some ⟨gh, 0, none⟩) (N + 1) caph)
  have hce : cellsN l ++ [Value.int .u64 (a : Int), Value.int .i64 (b : Int)] = cellsN (l ++ [(a, b)]) := (rowsOf_append l [(a, b)]).symm
  rw [hce] at ho7
  have hrr : gh = r ∨ w.heap.size ≤ gh := hgh.imp (fun h => (Option.some.inj (show some r = some gh from h)).symm) (fun h => by omega)
  have HO := Lib.hid ho7
  have HK := Lib.hid hk7
  have HL := Lib.hid l7
  clear ho7 hk7 l7 ho6 hg6 l6 e1 e2 hk6
  go_wp2
  refine bodyPost_end (v := .tuple #[]) (by simp [results, Tryz.results136, go_sem]) rfl ?_
  exact ⟨rfl, ⟨gh, caph, ⟨HL.out, HO.out, fun p hm => (List.mem_append.1 hm).elim (fun hm => H.out.2.2.1 p hm) (fun hm => by rw [List.mem_singleton.1 hm]; exact hp), hN⟩, hrr⟩, HK.out⟩)
def lvF (acc : List N2) (n : Nat) : List N2 := if 0 < n then acc ++ [(n, acc.length)] else acc
def lvs (ws : List Nat) : List N2 := ws.foldl lvF []
theorem lvs_take {ws : List Nat} {i n : Nat} (h : ws[i]? = some n) : lvs (ws.take (i + 1)) = lvF (lvs (ws.take i)) n := by
 unfold lvs; rw [List.take_add_one, h, List.foldl_append]; rfl
theorem lvF_length (acc : List N2) (n : Nat) : (lvF acc n).length ≤ acc.length + 1 := by unfold lvF; split <;> simp
theorem lvs_length (ws : List Nat) : ∀ i, (lvs (ws.take i)).length ≤ i
 | 0 => by simp [lvs]
 | i + 1 => by
  rcases h : ws[i]? with _ | n
  ·have := lvs_length ws i
   rw [List.take_add_one, h]; simp; omega
  ·rw [lvs_take h]
   have := lvF_length (lvs (ws.take i)) n
   have := lvs_length ws i
   omega
def WOk (ws : List Nat) : Prop := ws.length = 256 ∧ ∀ n ∈ ws, n < 18446744073709551616
theorem WOk.get {ws : List Nat} (h : WOk ws) {i : Nat} (hi : i < 256) : ∃ n, ws[i]? = some n ∧ n < 18446744073709551616 :=
 ⟨ws[i]'(by rw [h.1]; exact hi), List.getElem?_eq_getElem _, h.2 _ (List.getElem_mem _)⟩
theorem c64_get {ws : List Nat} {i n : Nat} (h : ws[i]? = some n) : (cells64 ws).toArray[i]? = some (.int .u64 (n : Int)) := by simp [cells64, h]
set_option maxHeartbeats 1000000 in
set_option maxRecDepth 100000 in
theorem huffLeaves (ws : List Nat) (w : World) (h : WOk ws) :
  Calls Tryz.prog 79 #[.agg (cells64 ws).toArray] w fun e w' => ∃ v, e = .returned v ∧ w'.ownsRow w.heap.size 140 2 v (lvs ws).length (cellsN (lvs ws)) ∧ Below w.heap.size w w' := by
 have hg := fun (i n : Nat) (hi : i < 256) (hn : ws[i]? = some n) (w : World) => run_index_arr (P := Tryz.prog) 80 34 256 (cells64 ws).toArray .i64 i _ under64 isAgg64 sizeOf64 hi (c64_get hn) w
 have hlen : (cells64 ws).length = 256 := by rw [c64_length]; exact h.1
 have hall : lvs ws = lvs (ws.take 256) := by rw [List.take_of_length_le (by rw [h.1]; exact Nat.le_refl _)]
 have HALL := Lib.hid hall
 have HG := Lib.hid hg
 have H := Lib.hid h
 obtain ⟨L, hL⟩ : ∃ L, L = cells64 ws := ⟨_, rfl⟩
 rw [← hL] at HG hlen ⊢
 have hi1 : (Tryz.prog.info? 80).map (·.size) = some L.length := by rw [hlen]; exact info64
 have HI1 := Lib.hid hi1
 clear hall hg h hL hi1
 go_enter Tryz.func79, Tryz.ntmps79
 have hli := Lies.made w 80 L.toArray
 have HR := Lib.hid (arr_range hli)
 have hb := (Below.refl w.heap.size w).alloc (Nat.le_refl _) (.cells L.toArray 80)
 clear hli
 go_wp2_with (refine wpList_load_mid rfl 80 _ rfl w.heap.size 0 rfl L _ HR.out under64 rfl HI1.out ?_)
 clear HR
 generalize w.alloc (.cells L.toArray 80) = w1 at *
 have hb1 := hb.size
 go_loopw [3, 7] (fun t c wr => ∃ i : Nat, i ≤ 256 ∧ c = .int .i64 i ∧ wr.ownsRow w.heap.size 140 2 t (lvs (ws.take i)).length (cellsN (lvs (ws.take i))) ∧ Below w.heap.size w wr)
  (fun _ c _ => 256 - (intOf c).toNat)
 case atStart => exact ⟨0, by omega, rfl, World.ownsRow_nil _ _ _ _, hb⟩
 case round =>
  clear hb hb1
  obtain ⟨i, hi, rfl, ho, hb⟩ := hrel
  have hbs := hb.size
  by_cases hlt : i < 256
  ·have hii : (i : Int) < 256 := by omega
   obtain ⟨n, hn, hnl⟩ := H.out.get hlt
   have hix := HG.out i n hlt hn
   have hst := lvs_take hn
   have hll := lvs_length ws i
   have HST := Lib.hid hst
   have HO := Lib.hid ho
   obtain ⟨A2, cp2, hv2, ho1, ho2, _⟩ := (SeqS.of_owns ho).form
   unfold maxLen at ho2
   subst hv2
   clear hst ho hn
   generalize lvs (ws.take i) = d at *
   obtain ⟨D, hD⟩ : ∃ D, D = d.length := ⟨_, rfl⟩
   rw [← hD] at HO ho1 hll ⊢
   have HDD := Lib.hid hD
   clear hD
   by_cases hz : 0 < n
   ·have e1 : decide ((0 : Int) < (n : Int)) = true := by simp; omega
    have e2 : decide (0 < n) = true := by simpa using hz
    have HST2 : Hid (lvs (ws.take (i + 1)) = d ++ [(n, D)]) := by show _ = _; rw [HST.out, HDD.out]; unfold lvF; rw [if_pos hz]
    clear hz HST
    go_wp2_with (at_builtin; refine append_oneS wr #[.int .u64 n, .int .i64 D] 2 rfl (.tmp 12) (.tmp 17) 112 rfl w.heap.size 140 _ 16 Tryz.underlying112 infoNode rfl (by omega) rfl (by simp [Value.oneCell']) _ _ _ rfl HO.out rfl (by unfold maxLen; omega) (by omega) hbs ?_)
    intro v' w2 ho3 hb3 hgr
    have hce : cellsN d ++ [Value.int .u64 (n : Int), Value.int .i64 (D : Int)] = cellsN (d ++ [(n, D)]) := (rowsOf_append d [(n, D)]).symm
    rw [hce, ← HST2.out] at ho3
    have hln : (lvs (ws.take (i + 1))).length = D + 1 := by rw [HST2.out, List.length_append, ← HDD.out]; rfl
    rw [← hln] at ho3
    have HO3 := Lib.hid ho3
    have HB3 := Lib.hid (hb.trans hb3)
    clear ho3 hb3 hgr hce hln HO hb hbs
    go_wp2
    go_roundw
    case rel => exact ⟨i + 1, by omega, by go_num, HO3.out, HB3.out⟩
    case measure => simp [intOf]; omega
   ·have e1 : decide ((0 : Int) < (n : Int)) = false := by simp; omega
    have e2 : decide (0 < n) = false := by simpa using hz
    have HST2 : Hid (lvs (ws.take (i + 1)) = d) := by show _ = _; rw [HST.out]; unfold lvF; rw [if_neg hz]
    clear hz HST
    go_wp2
    go_roundw
    case rel => exact ⟨i + 1, by omega, by go_num, by rw [HST2.out, ← HDD.out]; exact HO.out, hb⟩
    case measure => simp [intOf]; omega
  ·obtain rfl : i = 256 := by omega
   rw [← HALL.out] at ho
   have HO := Lib.hid ho
   clear ho
   go_wp2
   go_ret
   exact ⟨_, rfl, HO.out, hb⟩
set_option maxHeartbeats 1000000 in
set_option maxRecDepth 100000 in
theorem heapUp (B g r N cap : Nat) (l : List N2) (j0 : Nat) (w : World) (h : TrAt w B g r N cap l) (hj : j0 < N) :
  Calls Tryz.prog 111 #[hpI g, .int .i64 j0] w fun e w' => e = .returned (.tuple #[]) ∧ TrAt w' B g r N cap (upL j0 l) ∧ Kept (oneRow r) w w' := by
 have hN := h.2.2.2
 have H := Lib.hid h
 clear h
 unfold hpI
 go_enter Tryz.func111, Tryz.ntmps111
 go_wp2
 go_loopw [1] (fun t wr => ∃ (j : Nat) (cur : List N2), j < N ∧ t = .int .i64 j ∧ Hid (upL j0 l = upL j cur) ∧ TrAt wr B g r N cap cur ∧ Kept (oneRow r) w wr)
  (fun t _ => (intOf t).toNat)
 case atStart => exact ⟨j0, l, by omega, rfl, rfl, H.out, Kept.refl _ _⟩
 case round =>
  clear H
  obtain ⟨j, cur, hjN, rfl, hD, hT, hk2⟩ := hrel
  rcases Nat.eq_zero_or_pos j with hj0 | hj0
  ·subst hj0
   have HD2 : Hid (upL j0 l = cur) := by
    show _ = _
    rw [hD.out]
    conv => lhs; unfold upL
    rw [dif_neg (by omega)]
   clear hD
   go_wp2
   refine bodyPost_end (v := .tuple #[]) (by simp [results, Tryz.results111, go_sem]) rfl ?_
   exact ⟨rfl, by rw [HD2.out]; exact hT, hk2⟩
  ·obtain ⟨jm, hjm⟩ : ∃ jm : Nat, j = jm + 1 := ⟨j - 1, by omega⟩
   obtain ⟨ip, hip⟩ : ∃ ip : Nat, ip = (j - 1) / 2 := ⟨_, rfl⟩
   have q1 : (j : Int) - 1 = (jm : Int) := by omega
   have q2 : (jm : Int) / 2 = (ip : Int) := by omega
   have q3 : ((ip : Int) == (j : Int)) = false := by simp; omega
   have q4 : (ip == j) = false := by simp; omega
   have HIP := Lib.hid hip
   have hlt : ip < N := by omega
   have hltj : ip < j := by omega
   have m3 := met_less ⟨g, 0, none⟩ _ _ hT.cell
   have m4 := nil_less ⟨g, 0, none⟩
   clear hip hjm
   go_wp2_with fail
   refine (lessC hT j ip (by omega) (by omega)).mono ?_
   rintro e w4 ⟨rfl, k4, rfl⟩
   have hT := hT.drewN k4
   have hk2 := hk2.trans (Kept.drewN (oneRow r) _ k4) (fun _ _ h => h)
   generalize World.drewN _ k4 = w4 at *
   clear m3 m4
   by_cases hX2 : K2 cur j < K2 cur ip
   ·have e2 : decide (K2 cur j < K2 cur ip) = true := by simpa using hX2
    have m3 := met_swap ⟨g, 0, none⟩ _ _ hT.cell
    have m4 := nil_swap ⟨g, 0, none⟩
    have HD2 : Hid (upL j0 l = upL ip (swp cur ip j)) := by
     show _ = _
     rw [hD.out]
     conv => lhs; unfold upL
     rw [dif_pos hj0, ← HIP.out, if_pos hX2]
    clear hX2 hD
    go_wp2_with fail
    refine (swapC hT ip j (by omega) (by omega)).mono ?_
    rintro e w5 ⟨rfl, hT2, hk5⟩
    clear m3 m4 hT e2
    have hk6 := hk2.trans hk5 (fun _ _ h => h)
    clear hk2 hk5
    go_wp2
    go_roundw
    case rel => exact ⟨ip, _, by omega, by go_num, HD2, hT2, hk6⟩
    case measure => simp [intOf]; omega
   ·have e2 : decide (K2 cur j < K2 cur ip) = false := by simpa using hX2
    have HD2 : Hid (upL j0 l = cur) := by
     show _ = _
     rw [hD.out]
     conv => lhs; unfold upL
     rw [dif_pos hj0, ← HIP.out, if_neg hX2]
    clear hX2 hD
    go_wp2
    refine bodyPost_end (v := .tuple #[]) (by simp [results, Tryz.results111, go_sem]) rfl ?_
    exact ⟨rfl, by rw [HD2.out]; exact hT, hk2⟩
set_option maxHeartbeats 1000000 in
set_option maxRecDepth 100000 in
theorem heapInit (B g r N cap : Nat) (l : List N2) (w : World) (h : TrAt w B g r N cap l) :
  Calls Tryz.prog 99 #[hpI g] w fun e w' => e = .returned (.tuple #[]) ∧ TrAt w' B g r N cap (initL (N / 2) l) ∧ Kept (oneRow r) w w' := by
 have hN := h.2.2.2
 obtain ⟨M, hM⟩ : ∃ M, M = N / 2 := ⟨_, rfl⟩
 rw [← hM]
 have q1 : (N : Int) / 2 = (M : Int) := by omega
 have hMN : M ≤ N := by omega
 have m3 := met_len ⟨g, 0, none⟩ _ _ h.cell
 have m4 := nil_len ⟨g, 0, none⟩
 have H := Lib.hid h
 clear h hM
 unfold hpI
 go_enter Tryz.func99, Tryz.ntmps99
 go_wp2_with fail
 refine (lenC _ r N cap).mono ?_
 rintro e w4 ⟨rfl, rfl⟩
 clear m3 m4
 go_wp2
 go_loopw [3] (fun t wr => ∃ (m : Nat) (cur : List N2), m ≤ M ∧ t = .int .i64 ((m : Int) - 1) ∧ Hid (initL M l = initL m cur) ∧ TrAt wr B g r N cap cur ∧ Kept (oneRow r) w wr)
  (fun t _ => (intOf t + 1).toNat)
 case atStart => exact ⟨M, l, by omega, rfl, rfl, H.out, Kept.refl _ _⟩
 case round =>
  clear H
  obtain ⟨m, cur, hm, rfl, hD, hT, hk2⟩ := hrel
  rcases m with _ | m
  ·have HD2 : Hid (initL M l = cur) := hD
   clear hD
   go_wp2
   refine bodyPost_end (v := .tuple #[]) (by simp [results, Tryz.results99, go_sem]) rfl ?_
   exact ⟨rfl, by rw [HD2.out]; exact hT, hk2⟩
  ·have q2 : ((m + 1 : Nat) : Int) - 1 = (m : Int) := by omega
   have x1 : decide ((0 : Int) ≤ (m : Int)) = true := by simp
   rw [q2]
   have HL := Lib.hid hT.len
   clear q2
   go_wp2_with fail
   refine (heapDown B g r N cap cur m N _ hT (Nat.le_refl _) (by omega)).mono ?_
   rintro e w5 ⟨⟨b, rfl⟩, hT2, hk5⟩
   have hk6 := hk2.trans hk5 (fun _ _ h => h)
   clear hk2 hk5
   have HD2 : Hid (initL M l = initL m (downL N m cur)) := by show _ = _; rw [hD.out, initL, HL.out]
   clear hD hT
   go_wp2
   go_roundw
   case rel => exact ⟨m, _, by omega, by go_num, HD2, hT2, hk6⟩
   case measure => simp [intOf]
theorem met_pop (a : Addr) (w : World) : (method 279 141 (.pointer (some a)) "Pop").run Tryz.prog w = .ok (135, .pointer (some a)) w := by kernel_rfl
theorem met_push (a : Addr) (w : World) : (method 279 141 (.pointer (some a)) "Push").run Tryz.prog w = .ok (136, .pointer (some a)) w := by kernel_rfl
theorem nil_pop (a : Addr) (w : World) : (nilAhead 279 141 (.pointer (some a)) "Pop").run Tryz.prog w = .ok (some false) w := by kernel_rfl
theorem nil_push (a : Addr) (w : World) : (nilAhead 279 141 (.pointer (some a)) "Push").run Tryz.prog w = .ok (some false) w := by kernel_rfl
theorem kept_two1 {g r : Nat} {w w' : World} (h : Kept (oneRow g) w w') : Kept (twoRows g r) w w' := h.mono fun _ _ h => .inl h
theorem kept_two2 {g r : Nat} {w w' : World} (h : Kept (oneRow r) w w') : Kept (twoRows g r) w w' := h.mono fun _ _ h => .inr h
set_option maxHeartbeats 1000000 in
set_option maxRecDepth 100000 in
theorem heapPush (B g r N cap : Nat) (l : List N2) (p : N2) (w : World) (h : TrAt w B g r N cap l) (hN : N + 1 ≤ 1024) (hp : p.1 < 18446744073709551616 ∧ p.2 < 1024) (hB : B ≤ w.heap.size) :
  Calls Tryz.prog 101 #[hpI g, ndI p] w fun e w' => e = .returned (.tuple #[]) ∧ (∃ r' cap', TrAt w' B g r' (N + 1) cap' (pushL l p) ∧ (r' = r ∨ w.heap.size ≤ r')) ∧ Kept (twoRows g r) w w' := by
 have hl := h.len
 have HC := Lib.hid (trPush B g r N cap l p w h hN hp hB)
 have m3 := met_push ⟨g, 0, none⟩
 have m4 := nil_push ⟨g, 0, none⟩
 have HL := Lib.hid hl
 have H := Lib.hid h
 clear h hl
 unfold hpI
 go_enter Tryz.func101, Tryz.ntmps101
 go_wp2_with fail
 refine HC.out.mono ?_
 rintro e w4 ⟨rfl, ⟨r', cap', hT, hrr⟩, hk⟩
 clear m3 m4 HC
 have m3 := met_len ⟨g, 0, none⟩ _ _ hT.cell
 have m4 := nil_len ⟨g, 0, none⟩
 have q1 : ((N + 1 : Nat) : Int) - 1 = (N : Int) := by omega
 go_wp2_with fail
 refine (lenC _ r' (N + 1) cap').mono ?_
 rintro e w5 ⟨rfl, rfl⟩
 clear m3 m4
 go_wp2_with fail
 refine (heapUp B g r' (N + 1) cap' _ N _ hT (by omega)).mono ?_
 rintro e w5 ⟨rfl, hT2, hk2⟩
 go_wp2
 refine bodyPost_end (v := .tuple #[]) (by simp [results, Tryz.results101, go_sem]) rfl ?_
 have he : upL N (l ++ [p]) = pushL l p := by unfold pushL; rw [HL.out]
 rw [he] at hT2
 exact ⟨rfl, ⟨r', cap', hT2, hrr⟩, hk.trans hk2 (fun i hi hr => by
  have hr2 : i = r' := hr
  rcases hrr with h | h
  ·exact .inr (hr2.trans h)
  ·omega)⟩
set_option maxHeartbeats 1000000 in
set_option maxRecDepth 100000 in
theorem heapPop (B g r N cap : Nat) (l : List N2) (w : World) (h : TrAt w B g r (N + 1) cap l) :
  Calls Tryz.prog 110 #[hpI g] w fun e w' => e = .returned (ndI (gd l 0)) ∧ TrAt w' B g r N cap ((popL l).take N) ∧ Kept (twoRows g r) w w' := by
 have hl := h.len
 have hN := h.2.2.2
 have m3 := met_len ⟨g, 0, none⟩ _ _ h.cell
 have m4 := nil_len ⟨g, 0, none⟩
 have m5 := met_swap ⟨g, 0, none⟩ _ _ h.cell
 have m6 := nil_swap ⟨g, 0, none⟩
 have q1 : ((N + 1 : Nat) : Int) - 1 = (N : Int) := by omega
 have HL := Lib.hid hl
 have H := Lib.hid h
 clear h hl
 unfold hpI
 go_enter Tryz.func110, Tryz.ntmps110
 go_wp2_with fail
 refine (lenC _ r (N + 1) cap).mono ?_
 rintro e w5 ⟨rfl, rfl⟩
 go_wp2_with fail
 refine (swapC H.out 0 N (by omega) (by omega)).mono ?_
 rintro e w5 ⟨rfl, hT, hk⟩
 clear m3 m4 m5 m6
 go_wp2_with fail
 refine (heapDown B g r (N + 1) cap _ 0 N _ hT (by omega) (by omega)).mono ?_
 rintro e w6 ⟨⟨b, rfl⟩, hT2, hk2⟩
 have m3 := met_pop ⟨g, 0, none⟩
 have m4 := nil_pop ⟨g, 0, none⟩
 have hk3 := hk.trans hk2 (fun _ _ h => h)
 have HK3 := Lib.hid hk3
 have he : downL N 0 (swp l 0 N) = popL l := by unfold popL; rw [HL.out, Nat.add_sub_cancel]
 rw [he] at hT2
 have hlast : gd (popL l) N = gd l 0 := by
  have := popL_last (l := l) (by rw [HL.out]; omega)
  rwa [HL.out, Nat.add_sub_cancel] at this
 have HLT := Lib.hid hlast
 clear hk hk2 hk3 hT he hlast
 go_wp2_with fail
 refine (trPop B g r N cap _ _ hT2).mono ?_
 rintro e w7 ⟨rfl, hT3, hk4⟩
 rw [HLT.out]
 go_wp2
 go_ret
 exact ⟨rfl, hT3, (kept_two2 HK3.out).trans (kept_two1 hk4) (fun _ _ h => h)⟩
def insL (p : N2) : List N2 → List N2
 | [] => [p]
 | q :: l => if kf p ≤ kf q then p :: q :: l else q :: insL p l
theorem insL_length (p : N2) : ∀ l, (insL p l).length = l.length + 1
 | [] => rfl
 | q :: l => by unfold insL; split <;> simp [insL_length p l]
theorem insL_perm (p : N2) : ∀ l, (insL p l).Perm (p :: l)
 | [] => List.Perm.refl _
 | q :: l => by
  unfold insL
  split
  ·exact List.Perm.refl _
  ·exact ((insL_perm p l).cons q).trans (List.Perm.swap p q l)
def SrtL : List N2 → Prop
 | [] => True
 | p :: l => (∀ q ∈ l, kf p ≤ kf q) ∧ SrtL l
theorem insL_srt (p : N2) : ∀ l, SrtL l → SrtL (insL p l)
 | [], _ => ⟨by simp, trivial⟩
 | q :: l, h => by
  unfold insL
  split
  ·next hle => exact ⟨fun x hx => by
    rcases List.mem_cons.1 hx with rfl | hx
    ·exact hle
    ·exact Nat.le_trans hle (h.1 x hx), h⟩
  ·next hle => exact ⟨fun x hx => by
    rcases List.mem_cons.1 ((insL_perm p l).mem_iff.1 hx) with rfl | hx
    ·omega
    ·exact h.1 x hx, insL_srt p l h.2⟩
def sortL (l : List N2) : List N2 := l.foldr insL []
theorem sortL_perm : ∀ l, (sortL l).Perm l
 | [] => List.Perm.refl _
 | p :: l => (insL_perm p _).trans ((sortL_perm l).cons p)
theorem sortL_srt : ∀ l, SrtL (sortL l)
 | [] => trivial
 | p :: l => insL_srt p _ (sortL_srt l)
theorem kf_inj {p q : N2} (hp : p.2 < 1024) (hq : q.2 < 1024) (h : kf p = kf q) : p = q := by
 obtain ⟨a, b⟩ := p
 obtain ⟨c, d⟩ := q
 simp only [kf] at *
 have : a = c := by omega
 have : b = d := by omega
 simp_all
theorem pop_head {l rest : List N2} {x a : N2} {s : List N2} (hx : (x :: rest).Perm l) (hl : l.Perm (a :: s)) (hs : SrtL (a :: s)) (hm : ∀ y ∈ l, kf x ≤ kf y) (hn : ∀ y ∈ l, y.2 < 1024) : x = a ∧ rest.Perm s := by
 have hxl : x ∈ l := hx.mem_iff.1 (by simp)
 have hal : a ∈ l := hl.mem_iff.2 (by simp)
 have h1 := hm a hal
 have h2 : kf a ≤ kf x := by
  rcases List.mem_cons.1 (hl.mem_iff.1 hxl) with h | h
  ·rw [h]; exact Nat.le_refl _
  ·exact hs.1 x h
 have := kf_inj (hn x hxl) (hn a hal) (by omega)
 subst this
 exact ⟨rfl, List.Perm.cons_inv (hx.trans hl)⟩
def sumW (a b : Nat) : Nat := if a + b < 18446744073709551616 then a + b else 18446744073709551615
theorem sumW_lt (a b : Nat) : sumW a b < 18446744073709551616 := by unfold sumW; split <;> omega
def ps2 (ps : List Nat) (a b : N2) : List Nat := ((ps.set a.2 ps.length).set b.2 ps.length) ++ [0]
theorem ps2_length (ps : List Nat) (a b : N2) : (ps2 ps a b).length = ps.length + 1 := by simp [ps2]
def mrgP (s : List N2) (ps : List Nat) : List Nat :=
 match s with
 | a :: b :: r => mrgP (insL (sumW a.1 b.1, ps.length) r) (ps2 ps a b)
 | _ => ps
termination_by s.length
decreasing_by simp [insL_length]
theorem mrgP_step (a b : N2) (r : List N2) (ps : List Nat) : mrgP (a :: b :: r) ps = mrgP (insL (sumW a.1 b.1, ps.length) r) (ps2 ps a b) := by
 conv => lhs; unfold mrgP
theorem mrgP_end (s : List N2) (ps : List Nat) (h : s.length ≤ 1) : mrgP s ps = ps := by
 unfold mrgP
 match s, h with
 | [], _ => rfl
 | [a], _ => rfl
theorem mrgP_length : ∀ (n : Nat) (s : List N2) (ps : List Nat), s.length = n → (mrgP s ps).length = ps.length + (n - 1)
 | 0, s, ps, h => by rw [mrgP_end _ _ (by omega)]; rfl
 | 1, s, ps, h => by rw [mrgP_end _ _ (by omega)]; rfl
 | n + 2, s, ps, h => by
  match s, h with
  | a :: b :: r, h =>
   rw [mrgP_step, mrgP_length (n + 1) _ _ (by rw [insL_length]; simp at h; omega), ps2_length]
   omega
theorem huffSum (a b : Nat) (w : World) (ha : a < 18446744073709551616) (hb : b < 18446744073709551616) :
  Calls Tryz.prog 102 #[.int .u64 a, .int .u64 b] w fun e w' => e = .returned (.int .u64 (sumW a b)) ∧ w = w' := by
 by_cases h : a + b < 18446744073709551616
 ·have e : IntKind.u64.wrap ((a : Int) + (b : Int)) = ((a + b : Nat) : Int) := by rw [IntKind.wrap_u64]; omega
  have e2 : sumW a b = a + b := by unfold sumW; rw [if_pos h]
  have x1 : decide (((a + b : Nat) : Int) < (a : Int)) = false := by simp; omega
  obtain ⟨S, hS⟩ : ∃ S, S = a + b := ⟨_, rfl⟩
  rw [e2, ← hS]
  rw [← hS] at e x1
  have x2 : decide (S < a) = false := by simp; omega
  clear hS e2 h
  go_enter Tryz.func102, Tryz.ntmps102
  go_wp2
  go_ret
  exact ⟨rfl, rfl⟩
 ·obtain ⟨S, hS⟩ : ∃ S, S = a + b - 18446744073709551616 := ⟨_, rfl⟩
  have e : IntKind.u64.wrap ((a : Int) + (b : Int)) = (S : Int) := by rw [IntKind.wrap_u64]; omega
  have e2 : sumW a b = 18446744073709551615 := by unfold sumW; rw [if_neg h]
  have x1 : decide ((S : Int) < (a : Int)) = true := by simp; omega
  have x2 : decide (S < a) = true := by simp; omega
  rw [e2]
  clear hS e2 h
  go_enter Tryz.func102, Tryz.ntmps102
  go_wp2
  go_ret
  exact ⟨rfl, rfl⟩
theorem TrAt.kept {S : Nat → Prop} {w w' : World} {B g r N cap : Nat} {l : List N2} (h : TrAt w B g r N cap l) (k : Kept S w w') (hg : ¬ S g) (hr : ¬ S r) : TrAt w' B g r N cap l :=
 ⟨h.1.kept k hg, owns_kept h.2.1 k (fun q cur hq _ hs => by
  have hq' : some r = some q := hq
  rw [← Option.some.inj hq'] at hs
  exact hr hs), h.2.2⟩
theorem TrAt.row {w : World} {B g r N cap : Nat} {l : List N2} (h : TrAt w B g r N cap l) : ∃ cur, Lies w r 140 cur := by
 rcases owns_row h.2.1 with ⟨h1, _⟩ | ⟨r', _, cur, h1, _, h2, _⟩
 ·cases h1
 ·simp only [trS, Value.slice.injEq, Option.some.injEq, Addr.mk.injEq] at h1
  obtain ⟨⟨rfl, _⟩, _⟩ := h1
  exact ⟨cur, h2⟩
theorem zeroNd : ∀ w : World, (zeroValue 140).run Tryz.prog w = .ok (.agg #[.int .u64 0, .int .i64 0]) w := fun w => by kernel_rfl
set_option maxHeartbeats 1000000 in
set_option maxRecDepth 100000 in
theorem huffLightest (B g r N cap : Nat) (l : List N2) (w : World) (h : TrAt w B g r (N + 1) cap l) :
  Calls Tryz.prog 100 #[hpI g] w fun e w' => e = .returned (nodeV (gd l 0)) ∧ TrAt w' B g r N cap ((popL l).take N) ∧ Kept (twoRows g r) w w' := by
 have hta : ∀ (v : Value) (w : World), (Instr.typeAssert (.iface 140 v) 20 140 true).run Tryz.prog w = .ok (.tuple #[v, .bool true]) w := fun v w => by kernel_rfl
 have ha : TrAt (w.alloc (.cells #[.int .u64 0, .int .i64 0] 140)) B g r (N + 1) cap l := ⟨h.1.alloc _, h.2.1.alloc _, h.2.2⟩
 have HP := Lib.hid (heapPop B g r N cap l _ ha)
 have hne : ∀ k, twoRows g r k → k < w.heap.size := by
  have h1 := h.1.lt
  obtain ⟨cur, hl⟩ : ∃ cur, Lies w r 140 cur := by
   rcases owns_row h.2.1 with ⟨h1, _⟩ | ⟨r', _, cur, h1, _, h2, _⟩
   ·cases h1
   ·simp only [trS, Value.slice.injEq, Option.some.injEq, Addr.mk.injEq] at h1
    obtain ⟨⟨rfl, _⟩, _⟩ := h1
    exact ⟨cur, h2⟩
  have h2 := hl.lt
  intro k hk
  rcases hk with rfl | rfl
  ·exact h1
  ·exact h2
 have lr := Lies.made w 140 #[.int .u64 0, .int .i64 0]
 have LR := Lib.hid lr
 have ka := Lib.hid (Kept.alloc (twoRows g r) w (.cells #[.int .u64 0, .int .i64 0] 140))
 have HNE := Lib.hid hne
 obtain ⟨P, hP⟩ : ∃ P, P = gd l 0 := ⟨_, rfl⟩
 rw [← hP] at HP ⊢
 obtain ⟨a, b⟩ := P
 have hz := zeroNd
 clear lr hne ha h hP
 unfold ndI nodeV at HP
 unfold nodeV
 simp only at HP ⊢
 go_enter Tryz.func100, Tryz.ntmps100
 go_wp2_with fail
 refine HP.out.mono ?_
 rintro e w4 ⟨rfl, hT, hk⟩
 have hlt : w.heap.size < w4.heap.size := Nat.lt_of_lt_of_le (by simp) hk.size
 have l4 := LR.out.kept hk (fun h => by have := HNE.out _ h; omega)
 have HT := Lib.hid hT
 have HK := Lib.hid (ka.out.trans hk (fun _ _ h => h))
 have c0 := (l4.cell 0).trans (show _ = some (Value.int .u64 0) from rfl)
 have c1 := (l4.cell 1).trans (show _ = some (Value.int .i64 0) from rfl)
 have f0 := l4.free 0
 have f1 := l4.free 1
 have L4 := Lib.hid l4
 clear hT hk l4 LR ka HP hz
 have lE := ((L4.out.put 0 (.int .u64 (a : Int))).put 1 (.int .i64 (b : Int))).alloc (.cells #[.int .u64 (a : Int), .int .i64 (b : Int)] 140)
 have kE := (((Kept.put w4 w.heap.size 0 (.int .u64 (a : Int))).trans (Kept.put _ w.heap.size 1 (.int .i64 (b : Int))) (fun _ _ h => h)).trans (Kept.alloc (oneRow w.heap.size) _ (.cells #[.int .u64 (a : Int), .int .i64 (b : Int)] 140)) (fun _ _ h => h))
 have tE := HT.out.kept kE (fun e => by have h1 : g = w.heap.size := e; have := HNE.out g (.inl rfl); omega) (fun e => by have h1 : r = w.heap.size := e; have := HNE.out r (.inr rfl); omega)
 have q0 := (lE.cell 0).trans (show _ = some (Value.int .u64 (a : Int)) from rfl)
 have q1 := (lE.cell 1).trans (show _ = some (Value.int .i64 (b : Int)) from rfl)
 have Q0 := Lib.hid q0
 have Q1 := Lib.hid q1
 have TE := Lib.hid tE
 have KE := Lib.hid (HK.out.trans kE (fun i hi hs => by have h1 : i = w.heap.size := hs; omega))
 clear lE kE tE q0 q1
 go_wp2
 have q0 := Q0.out
 have q1 := Q1.out
 refine bodyPost_ret (v := .agg #[.int .u64 (a : Int), .int .i64 (b : Int)]) (by simp [results, Tryz.results100, go_sem, q0, q1]) rfl ⟨rfl, TE.out, KE.out⟩
theorem run_copy_rowS {P : Program} (w : World) (dT sT ty elem : TypeId) (g n dCap : Nat) (a : Addr) (sCap sz : Nat) (cur : Array Value) (t : TypeId) (cs : List Value)
  (hu : P.underlying dT = some (.slice elem)) (hs : (P.info? elem).map (·.size) = some sz) (hg : w.heap[g]? = some (.cells cur t (0, 0))) (hn : cs.length = n * sz)
  (hsrc : ∀ j v, cs[j]? = some v → w.cell? (a.add j) = some v) (hfit : cs.length ≤ cur.size) (h1 : ∀ v ∈ cs, v.oneCell' = true) :
  (Builtin.copy_ #[dT, sT] ty #[.slice (some ⟨g, 0, none⟩) n dCap, .slice (some a) n sCap]).run P w = .ok (goInt n) (w.setRow g (cs ++ cur.toList.drop cs.length).toArray) := by
 have hl := run_loadCells_list (P := P) w a cs hsrc
 have hst := run_storeCells_at P g 0 t cs 0 cur w hg (by simpa using hfit) h1
 simp only [Nat.zero_add, List.take_zero, List.nil_append] at hst
 rw [hn] at hl
 cases hq : P.info? elem with
 | none => simp [hq] at hs
 | some i =>
  have hi : i.size = sz := by simpa [hq] using hs
  simp [Builtin.copy_, run_underlying hu, Builtin.lenOf, Builtin.firstCells, sizeOf, typeInfo, hq, hi, hl, hst]
theorem run_copy_nilS {P : Program} (w : World) (dT sT ty elem : TypeId) (g dCap sz : Nat) (hu : P.underlying dT = some (.slice elem)) (hs : (P.info? elem).map (·.size) = some sz) :
  (Builtin.copy_ #[dT, sT] ty #[.slice (some ⟨g, 0, none⟩) 0 dCap, .slice none 0 0]).run P w = .ok (goInt 0) w :=
 run_copy_nil P w dT sT ty elem _ 0 dCap hu (by cases hq : P.info? elem <;> simp [hq] at hs ⊢)
theorem wpList_copy_rowS {P : Program} {w : World} {ops : Array Oper} {rest : List Oper} {o : Oper} {a : Act} {Q : Exit → Act → World → Prop} (hgd : o.guard = none) (d s : Operand) (dT sT : TypeId)
  (ho : o.op = .call { callee := .builtin .copy, args := #[d, s], argTypes := #[dT, sT] }) (elem : TypeId) (sz : Nat) (hu : P.underlying dT = some (.slice elem)) (hsz : (P.info? elem).map (·.size) = some sz)
  (B g n cap : Nat) (zs xs : List Value) (A : Option Addr) (c : Nat) (hd : a.eval d = .slice (some ⟨g, 0, none⟩) n cap) (hs : a.eval s = .slice A n c)
  (hown : w.ownsRow B elem sz (.slice (some ⟨g, 0, none⟩) n cap) n zs) (hsrc : SeqS w sz (.slice A n c) n xs) (h1 : ∀ v ∈ xs, v.oneCell' = true)
  (h : ∀ w', w'.ownsRow B elem sz (.slice (some ⟨g, 0, none⟩) n cap) n xs → Kept (oneRow g) w w' → wpList P ops Q rest (a.put o.dst (goInt n)) w') :
  wpList P ops Q (o :: rest) a w := by
 refine wpList_plain hgd fun K hK => ?_
 obtain ⟨hl, A', c', e1, hlc, hcm, h0, hcell⟩ := hsrc
 simp only [Value.slice.injEq, true_and] at e1
 obtain ⟨rfl, rfl⟩ := e1
 obtain ⟨ho1, ho2⟩ := hown
 rcases ho2 with ⟨hv, _⟩ | ⟨g', cap', cur, hv, hB, hh, hc1, hc2, hc3, hc4⟩
 ·cases hv
 simp only [Value.slice.injEq, Option.some.injEq, Addr.mk.injEq, and_true, true_and] at hv
 obtain ⟨rfl, rfl⟩ := hv
 have hfit : xs.length ≤ cur.size := by rw [hl, hc3]; exact Nat.mul_le_mul_right _ hc1
 have hrun : ∃ w', (Builtin.copy_ #[dT, sT] o.type #[.slice (some ⟨g, 0, none⟩) n cap, .slice A n c]).run P w = .ok (goInt n) w' ∧ w'.ownsRow B elem sz (.slice (some ⟨g, 0, none⟩) n cap) n xs ∧ Kept (oneRow g) w w' := by
  cases A with
  | none =>
   obtain rfl : c = 0 := h0 rfl
   obtain rfl : n = 0 := by omega
   refine ⟨w, run_copy_nilS w dT sT o.type elem g cap sz hu hsz, ⟨hl, .inr ⟨g, cap, cur, rfl, hB, hh, hc1, hc2, hc3, ?_⟩⟩, Kept.refl _ _⟩
   have : xs = [] := List.length_eq_zero_iff.1 (by simpa using hl)
   rw [this]; simp
  | some ad =>
   refine ⟨_, run_copy_rowS w dT sT o.type elem g n cap ad c sz cur elem xs hu hsz hh hl ?_ hfit h1, ⟨hl, .inr ⟨g, cap, _, rfl, hB, setRow_heap w g cur _ elem _ hh, hc1, hc2, ?_, ?_⟩⟩, ⟨rfl, rfl, rfl, by simp [World.setRow], fun k hk hn => setRow_other w g k _ (fun e => hn e)⟩⟩
   ·intro j v hj
    obtain ⟨b, off, he, hc⟩ := hcell j v hj
    injection he with he
    subst he
    rw [addr_plus]; exact hc
   ·simp; omega
   ·rw [List.toList_toArray, ← hl, List.take_append_of_le_length (Nat.le_refl _), List.take_of_length_le (Nat.le_refl _)]
 obtain ⟨w', hr, ho', hk'⟩ := hrun
 unfold Oper.wp
 simp [execOp, ho, resolve, invoke, builtin, hd, hs, hr, Result.andThen]
 exact hK _ _ (h w' ho' hk')
theorem Tryz.infoInt : (Tryz.prog.info? 3).map (fun i => (i.zero, i.size, i.bytes)) = some (some (.int .i64 0), 1, 8) := by kernel_rfl
theorem infoNodeS : (Tryz.prog.info? 140).map (·.size) = some 2 := by kernel_rfl
theorem own_two {w w' : World} {B g r N cap B' n sz : Nat} {e : TypeId} {l : List N2} {v : Value} {xs : List Value} (h : w.ownsRow B' e sz v n xs) (hT : TrAt w B g r N cap l) (k : Kept (twoRows g r) w w') (h1 : e ≠ 112) (h2 : e ≠ 140) : w'.ownsRow B' e sz v n xs :=
 owns_kept h k (fun q cur hq hl hs => by
  rcases hs with rfl | rfl
  ·exact h1 (hl.same hT.1).1
  ·obtain ⟨c2, hc2⟩ := hT.row
   exact h2 (hl.same hc2).1)
theorem owns_base {w : World} {B B' : Nat} {e : TypeId} {sz n : Nat} {v : Value} {xs : List Value} (h : w.ownsRow B e sz v n xs) (hb : B' ≤ B) : w.ownsRow B' e sz v n xs := by
 refine ⟨h.1, ?_⟩
 rcases h.2 with h2 | ⟨r, cap, cur, rfl, hB, rest⟩
 ·exact .inl h2
 ·exact .inr ⟨r, cap, cur, rfl, Nat.le_trans hb hB, rest⟩
theorem cellsN_one (l : List N2) : ∀ u ∈ cellsN l, u.oneCell' = true := fun u hu => by
 obtain ⟨p, _, hp⟩ := rowsOf_mem hu
 simp [nodeC] at hp
 rcases hp with rfl | rfl <;> rfl
theorem cI_zero (n : Nat) : cI (List.replicate n 0) = List.replicate n (Value.int .i64 0) := by simp [cI]
def leftAt (w : World) (B g r N cap : Nat) (hl s : List N2) (ps : List Nat) (v : Value) (n0 : Nat) : Prop :=
 TrAt w B g r N cap hl ∧ w.ownsRow B 3 1 v ps.length (cI ps) ∧ hl.Perm s ∧ HeapF hl N 0 ∧ SrtL s ∧ (∀ p ∈ s, p.2 < ps.length) ∧ ps.length + N = 2 * n0 ∧ B ≤ g ∧ B ≤ r
theorem leftAt.len {w : World} {B g r N cap n0 : Nat} {hl s : List N2} {ps : List Nat} {v : Value} (h : leftAt w B g r N cap hl s ps v n0) : s.length = N := by
 rw [← h.1.len]; exact h.2.2.1.length_eq.symm
def lenOfV : Value → Nat
 | .slice _ n _ => n
 | _ => 0
theorem two_least {hl s : List N2} {N : Nat} (h1 : hl.length = N + 2) (h2 : hl.Perm s) (h3 : HeapF hl (N + 2) 0) (h4 : SrtL s) (h5 : NdOk hl) :
  ∃ a b s', s = a :: b :: s' ∧ gd hl 0 = a ∧ gd ((popL hl).take (N + 1)) 0 = b ∧ ((popL ((popL hl).take (N + 1))).take N).Perm s' ∧ HeapF ((popL ((popL hl).take (N + 1))).take N) N 0 ∧ SrtL s' ∧ a ∈ hl ∧ b ∈ hl := by
 have hsl : s.length = N + 2 := by rw [← h2.length_eq, h1]
 match s, hsl with
 | a :: b :: s', hsl =>
  have p1 := popL_perm (l := hl) (by omega)
  rw [h1, show N + 2 - 1 = N + 1 by omega] at p1
  have hF := popL_heap (l := hl) (by rw [h1]; exact h3)
  rw [h1, show N + 2 - 1 = N + 1 by omega] at hF
  have m1 : ∀ y ∈ hl, kf (gd hl 0) ≤ kf y := fun y hy => by
   obtain ⟨k, hk, he⟩ := List.getElem_of_mem hy
   have := heap_min h3 k (by omega)
   have e : gd hl k = y := by
    have := gd_get hk
    rw [List.getElem?_eq_getElem hk, he] at this
    exact (Option.some.inj this).symm
   unfold K2 at this
   rwa [e] at this
  obtain ⟨e1, q1⟩ := pop_head p1 h2 h4 m1 (fun y hy => (h5 y hy).2)
  have l1 : ((popL hl).take (N + 1)).length = N + 1 := by rw [List.length_take, popL_length]; omega
  have ok1 : NdOk ((popL hl).take (N + 1)) := fun y hy => h5 y (p1.mem_iff.1 (List.mem_cons_of_mem _ hy))
  generalize (popL hl).take (N + 1) = h2l at *
  have p2 := popL_perm (l := h2l) (by omega)
  rw [l1, show N + 1 - 1 = N by omega] at p2
  have hF2 := popL_heap (l := h2l) (by rw [l1]; exact hF)
  rw [l1, show N + 1 - 1 = N by omega] at hF2
  have m2 : ∀ y ∈ h2l, kf (gd h2l 0) ≤ kf y := fun y hy => by
   obtain ⟨k, hk, he⟩ := List.getElem_of_mem hy
   have := heap_min hF k (by omega)
   have e : gd h2l k = y := by
    have := gd_get hk
    rw [List.getElem?_eq_getElem hk, he] at this
    exact (Option.some.inj this).symm
   unfold K2 at this
   rwa [e] at this
  obtain ⟨e2, q2⟩ := pop_head p2 q1 h4.2 m2 (fun y hy => (ok1 y hy).2)
  exact ⟨a, b, s', rfl, e1, e2, q2, hF2, h4.2.2, h2.mem_iff.2 (by simp), h2.mem_iff.2 (by simp)⟩
set_option maxHeartbeats 2000000 in
set_option maxRecDepth 100000 in
theorem huffMerge (v : Value) (n : Nat) (l : List N2) (w : World) (h : SeqS w 2 v n (cellsN l)) (hok : NdOk l) (hn : n ≤ 256) (hnum : ∀ p ∈ l, p.2 < n) :
  Calls Tryz.prog 80 #[v] w fun e w' => ∃ v', e = .returned v' ∧ w'.ownsRow w.heap.size 3 1 v' (mrgP (sortL l) (List.replicate n 0)).length (cI (mrgP (sortL l) (List.replicate n 0))) ∧ Below w.heap.size w w' := by
 have hln : l.length = n := h.len_ nodeC_len (by decide)
 obtain ⟨A, cp, rfl, hc1, hc2, _⟩ := h.form
 have hmk1 := fun w => run_make_row' (P := Tryz.prog) 49 3 (.int .i64 0) 8 Tryz.underlying49 Tryz.infoInt rfl .i64 .i64 n (by omega) (by omega) w
 have hmk2 := fun w => run_make_rowS (P := Tryz.prog) 112 140 (.agg #[.int .u64 0, .int .i64 0]) 2 16 Tryz.underlying112 infoNode .i64 .i64 n (by omega) (by omega) w
 have ho1 := owned_made w 3 (.int .i64 0) rfl n (by unfold maxLen; omega)
 have hb1 := (Below.refl w.heap.size w).alloc (Nat.le_refl _) (.cells (madeCells #[Value.int .i64 0] n) 3)
 have hs1 : (w.alloc (.cells (madeCells #[Value.int .i64 0] n) 3)).heap.size = w.heap.size + 1 := by simp
 have hq1 := h.later hb1
 have HN := Lib.hid hln
 have H := Lib.hid h
 have HO1 := Lib.hid ho1
 have HB1 := Lib.hid hb1
 have HQ1 := Lib.hid hq1
 unfold maxLen at hc2
 clear h ho1 hb1 hq1 hln
 have hm1 := hmk1 w
 have hm2 := hmk2 (w.alloc (.cells (madeCells #[Value.int .i64 0] n) 3))
 have hos := owned_rows nodeC_len (by decide) (w.alloc (.cells (madeCells #[Value.int .i64 0] n) 3)) 140 ((0, 0) : N2) #[Value.int .u64 0, Value.int .i64 0] rfl n (by unfold maxLen; omega)
 rw [hs1] at hm2 hos
 have hos2 := owns_base (hos.alloc (.cells #[trS (w.heap.size + 1) n n] 112)) (Nat.le_succ w.heap.size)
 have hlb := Lies.made ((w.alloc (.cells (madeCells #[Value.int .i64 0] n) 3)).alloc (.cells (madeCells #[Value.int .u64 0, Value.int .i64 0] (n * 2)) 140)) 112 #[trS (w.heap.size + 1) n n]
 have hs2 : ((w.alloc (.cells (madeCells #[Value.int .i64 0] n) 3)).alloc (.cells (madeCells #[Value.int .u64 0, Value.int .i64 0] (n * 2)) 140)).heap.size = w.heap.size + 1 + 1 := by simp
 rw [hs2] at hlb
 have hop := (HO1.out.alloc (.cells (madeCells #[Value.int .u64 0, Value.int .i64 0] (n * 2)) 140)).alloc (.cells #[trS (w.heap.size + 1) n n] 112)
 have hb3 := (HB1.out.alloc (by simp) (.cells (madeCells #[Value.int .u64 0, Value.int .i64 0] (n * 2)) 140)).alloc (by simp; omega) (.cells #[trS (w.heap.size + 1) n n] 112)
 have hq3 := H.out.later hb3
 have hsz3 : (((w.alloc (.cells (madeCells #[Value.int .i64 0] n) 3)).alloc (.cells (madeCells #[Value.int .u64 0, Value.int .i64 0] (n * 2)) 140)).alloc (.cells #[trS (w.heap.size + 1) n n] 112)).heap.size = w.heap.size + 3 := by simp
 have HOS := Lib.hid hos2
 have HLB := Lib.hid hlb
 have HOP := Lib.hid hop
 have HB3 := Lib.hid hb3
 have HQ3 := Lib.hid hq3
 have HZ3 := Lib.hid hsz3
 have HCN := Lib.hid (cellsN_one l)
 clear hos hos2 hlb hs2 hop hb3 hq3 hs1 HO1 HB1 HQ1 hmk1 hmk2 hsz3
 unfold trS at HOS HLB HOP HB3 HQ3 HZ3
 go_enter Tryz.func80, Tryz.ntmps80
 go_wp2_with (refine wpList_copy_rowS rfl (.tmp 15) (.tmp 16) 112 112 rfl 140 2 Tryz.underlying112 infoNodeS w.heap.size (w.heap.size + 1) n n _ (cellsN l) A cp rfl rfl HOS.out HQ3.out HCN.out ?_)
 intro w4 ho4 hk4
 have hT4 : TrAt w4 w.heap.size (w.heap.size + 1 + 1) (w.heap.size + 1) n n l := ⟨HLB.out.kept hk4 (fun e => by have h1 : w.heap.size + 1 + 1 = w.heap.size + 1 := e; omega), ho4, hok, by omega⟩
 have hp4 := owns_kept HOP.out hk4 (fun q cur hq _ hs => by
  have h1 : some w.heap.size = some q := hq
  have h2 : q = w.heap.size + 1 := hs
  have := Option.some.inj h1
  omega)
 have hb4 := HB3.out.trans (hk4.below (B := w.heap.size) (by rw [HZ3.out]; omega) (fun k hk e => by have h1 : k = w.heap.size + 1 := e; omega))
 have hz4 : w.heap.size + 3 ≤ w4.heap.size := by have := hk4.size; rw [HZ3.out] at this; exact this
 have HT4 := Lib.hid hT4
 have HP4 := Lib.hid hp4
 have HB4 := Lib.hid hb4
 clear hT4 hp4 hb4 ho4 hk4 HOS HLB HOP HB3 HQ3 HZ3 HCN hm1 hm2
 go_wp2_with fail
 refine (heapInit w.heap.size (w.heap.size + 1 + 1) (w.heap.size + 1) n n l w4 HT4.out).mono ?_
 rintro e w5 ⟨rfl, hT5, hk5⟩
 have hp5 := owns_kept HP4.out hk5 (fun q cur hq _ hs => by
  have h1 : some w.heap.size = some q := hq
  have h2 : q = w.heap.size + 1 := hs
  have := Option.some.inj h1
  omega)
 have hb5 := HB4.out.trans (hk5.below (B := w.heap.size) (by omega) (fun k hk e => by have h1 : k = w.heap.size + 1 := e; omega))
 have hla : leftAt w5 w.heap.size (w.heap.size + 1 + 1) (w.heap.size + 1) n n (initL (n / 2) l) (sortL l) (List.replicate n 0) (.slice (some ⟨w.heap.size, 0, none⟩) n n) n := by
  refine ⟨hT5, ?_, (initL_perm _ _).trans (sortL_perm l).symm, ?_, sortL_srt l, fun p hp => ?_, by simp; omega, by omega, by omega⟩
  ·rw [List.length_replicate, cI_zero]; exact hp5
  ·have := init_heap l; rw [HN.out] at this; exact this
  ·rw [List.length_replicate]; exact hnum p ((sortL_perm l).mem_iff.1 hp)
 have HLA := Lib.hid hla
 have HB5 := Lib.hid hb5
 have hz5 : w.heap.size ≤ w5.heap.size := by have := hk5.size; omega
 clear hT5 hk5 hp5 hb5 hla HT4 HP4 HB4
 go_wp2_with fail
 obtain ⟨g, hg⟩ : ∃ g, g = w.heap.size + 1 + 1 := ⟨_, rfl⟩
 rw [← hg] at HLA
 rw [← hg]
 have hgB : w.heap.size ≤ g := by omega
 generalize hR : mrgP (sortL l) (List.replicate n 0) = R at *
 have HM0 : Hid (R = mrgP (sortL l) (List.replicate n 0)) := hR.symm
 have HM00 := Lib.hid HM0.out
 clear hR hg H HN hnum hok hz4
 have hze := zeroNd
 go_loopw [3] (fun t wr => ∃ (s : List N2) (ps : List Nat) (r cap : Nat) (hl : List N2) (N : Nat), leftAt wr w.heap.size g r N cap hl s ps t n ∧ Hid (R = mrgP s ps) ∧ Below w.heap.size w wr)
  (fun t _ => 600 - lenOfV t)
 case atStart => exact ⟨_, _, _, _, _, _, HLA.out, HM0, HB5.out⟩
 case round =>
  clear HLA HM0 HB5 hz5
  obtain ⟨s, ps, r, cap, hl, N, hL, hM, hb⟩ := hrel
  have hbs := hb.size
  obtain ⟨A2, cp2, rfl, hq1, hq2, _⟩ := (SeqS.of_owns hL.2.1).form
  unfold maxLen at hq2
  have m3 := met_len ⟨g, 0, none⟩ _ _ hL.1.cell
  have m4 := nil_len ⟨g, 0, none⟩
  have hsum := hL.2.2.2.2.2.2.1
  by_cases hc : 1 < N
  ·obtain ⟨N0, hN0⟩ : ∃ N0, N = N0 + 2 := ⟨N - 2, by omega⟩
   have HL := Lib.hid hL
   subst hN0
   obtain ⟨a, b, s', rfl, ea, eb, hp', hF', hs', haM, hbM⟩ := two_least HL.out.1.len HL.out.2.2.1 HL.out.2.2.2.1 HL.out.2.2.2.2.1 HL.out.1.2.2.1
   have C1 := fun wx hx => huffLightest w.heap.size g r (N0 + 1) cap hl wx hx
   have C2 := fun wx hx => huffLightest w.heap.size g r N0 cap ((popL hl).take (N0 + 1)) wx hx
   rw [ea] at C1
   rw [eb] at C2
   have haL := HL.out.1.2.2.1 a haM
   have hbL := HL.out.1.2.2.1 b hbM
   have haP := HL.out.2.2.2.2.2.1 a (by simp)
   have hbP := HL.out.2.2.2.2.2.1 b (by simp)
   obtain ⟨a1, a2⟩ := a
   obtain ⟨b1, b2⟩ := b
   simp only at haL hbL haP hbP
   unfold nodeV at C1 C2
   simp only at C1 C2
   have hM2 := hM.out
   rw [mrgP_step] at hM2
   simp only at hM2
   have HM2 := Lib.hid hM2
   have HP' := Lib.hid hp'
   have HF' := Lib.hid hF'
   have HS' := Lib.hid hs'
   have HC1 := Lib.hid C1
   have HC2 := Lib.hid C2
   have x1 : decide ((1 : Int) < (N0 : Int) + 2) = true := by simp; omega
   have HB := Lib.hid hb
   clear hM2 hM hp' hF' hs' C1 C2 hL haM hbM ea eb hb hc
   obtain ⟨PL, hPL⟩ : ∃ PL, PL = ps.length := ⟨_, rfl⟩
   have HPL := Lib.hid hPL
   rw [← hPL] at haP hbP hsum hq1 ⊢
   clear hPL
   go_wp2_with fail
   refine (lenC _ r (N0 + 2) cap).mono ?_
   rintro e w6 ⟨rfl, rfl⟩
   clear m3 m4
   go_wp2_with fail
   refine (HC1.out _ HL.out.1).mono ?_
   rintro e w6 ⟨rfl, hT6, hk6⟩
   have hp6 := own_two HL.out.2.1 HL.out.1 hk6 (by decide) (by decide)
   have hb6 := HB.out.trans (hk6.below (B := w.heap.size) hbs (fun k hk e => by
    have h1 := HL.out.2.2.2.2.2.2.2
    rcases e with e | e <;> omega))
   have HP6 := Lib.hid hp6
   have HB6 := Lib.hid hb6
   have hbs6 : w.heap.size ≤ w6.heap.size := by have := hk6.size; omega
   clear hp6 hb6 hk6
   go_wp2_with fail
   refine (HC2.out _ hT6).mono ?_
   rintro e w7 ⟨rfl, hT7, hk7⟩
   have hp7 := own_two HP6.out hT6 hk7 (by decide) (by decide)
   have hb7 := HB6.out.trans (hk7.below (B := w.heap.size) hbs6 (fun k hk e => by
    have h1 := HL.out.2.2.2.2.2.2.2
    rcases e with e | e <;> omega))
   have HP7 := Lib.hid hp7
   have HB7 := Lib.hid hb7
   have hbs7 : w.heap.size ≤ w7.heap.size := by have := hk7.size; omega
   clear hp7 hb7 hk7 HP6 HB6 hT6 HC1 HC2
   go_wp2_with fail
   obtain ⟨p, cp3, hv3, hBp, hpl, _, _⟩ := owns_openS HP7.out (by have := HPL.out; omega)
   have hv4 : A2 = some ⟨p, 0, none⟩ := by
    simp only [Value.slice.injEq] at hv3
    exact hv3.1
   clear hv3
   subst hv4
   have LA := Lib.hid ((Lies.made w7 140 #[.int .u64 (a1 : Int), .int .i64 (a2 : Int)]).alloc (.cells #[.int .u64 (b1 : Int), .int .i64 (b2 : Int)] 140))
   have lb := Lies.made (w7.alloc (.cells #[.int .u64 (a1 : Int), .int .i64 (a2 : Int)] 140)) 140 #[.int .u64 (b1 : Int), .int .i64 (b2 : Int)]
   rw [show (w7.alloc (.cells #[.int .u64 (a1 : Int), .int .i64 (a2 : Int)] 140)).heap.size = w7.heap.size + 1 by simp] at lb
   have LB := Lib.hid lb
   have HT8 := Lib.hid ((hT7.kept (Kept.alloc noRow w7 (.cells #[.int .u64 (a1 : Int), .int .i64 (a2 : Int)] 140)) (fun h => h) (fun h => h)).kept (Kept.alloc noRow _ (.cells #[.int .u64 (b1 : Int), .int .i64 (b2 : Int)] 140)) (fun h => h) (fun h => h))
   have hp8 := ((HP7.out.alloc (.cells #[.int .u64 (a1 : Int), .int .i64 (a2 : Int)] 140)).alloc (.cells #[.int .u64 (b1 : Int), .int .i64 (b2 : Int)] 140))
   rw [← HPL.out] at hp8
   have HP8 := Lib.hid hp8
   clear hp8
   have HB8 := Lib.hid ((HB7.out.alloc hbs7 (.cells #[.int .u64 (a1 : Int), .int .i64 (a2 : Int)] 140)).alloc (by simp; omega) (.cells #[.int .u64 (b1 : Int), .int .i64 (b2 : Int)] 140))
   have hz8 : ((w7.alloc (.cells #[.int .u64 (a1 : Int), .int .i64 (a2 : Int)] 140)).alloc (.cells #[.int .u64 (b1 : Int), .int .i64 (b2 : Int)] 140)).heap.size = w7.heap.size + 2 := by simp
   have HG := Lib.hid HL.out.2.2.2.2.2.2.2
   have HSP : Hid (∀ q ∈ s', q.2 < PL) := fun q hq => by rw [HPL.out]; exact HL.out.2.2.2.2.2.1 q (List.mem_cons_of_mem _ (List.mem_cons_of_mem _ hq))
   clear lb HP7 HB7 hT7 HL hze
   generalize (w7.alloc (.cells #[.int .u64 (a1 : Int), .int .i64 (a2 : Int)] 140)).alloc (.cells #[.int .u64 (b1 : Int), .int .i64 (b2 : Int)] 140) = w8 at *
   obtain ⟨qa, hqa⟩ : ∃ qa, qa = w7.heap.size := ⟨_, rfl⟩
   rw [← hqa] at hz8 LA LB hbs7 ⊢
   clear hqa hpl
   have HZ8 := Lib.hid hz8
   have hcl : (cI ps).length = PL := by rw [cI_length]; exact HPL.out.symm
   have da0 := (LA.out.cell 0).trans (show _ = some (Value.int .u64 (a1 : Int)) from rfl)
   have da1 := (LA.out.cell 1).trans (show _ = some (Value.int .i64 (a2 : Int)) from rfl)
   have db0 := (LB.out.cell 0).trans (show _ = some (Value.int .u64 (b1 : Int)) from rfl)
   have db1 := (LB.out.cell 1).trans (show _ = some (Value.int .i64 (b2 : Int)) from rfl)
   obtain ⟨va, hva⟩ : ∃ va, (cI ps)[a2]? = some va := ⟨_, List.getElem?_eq_getElem (by omega)⟩
   have ka := owns_cell HP8.out hva
   have fa := owns_free HP8.out (k := a2) (by omega)
   have hs1 := owns_set (u := .int .i64 (PL : Int)) HP8.out (k := a2) (by omega)
   obtain ⟨vb, hvb⟩ : ∃ vb, ((cI ps).set a2 (.int .i64 (PL : Int)))[b2]? = some vb := ⟨_, List.getElem?_eq_getElem (by simp; omega)⟩
   have kb := owns_cell hs1 hvb
   have fb := owns_free hs1 (k := b2) (by omega)
   have hs2 := owns_set (u := .int .i64 (PL : Int)) hs1 (k := b2) (by omega)
   have HS2 := Lib.hid hs2
   have hpb : qa + 1 ≠ p := fun e => own_ne HP8.out LB.out (by decide) (by rw [e]; rfl)
   have hpa : qa ≠ p := fun e => own_ne HP8.out LA.out (by decide) (by rw [e]; rfl)
   have kb1 := ((LB.out.far (p := ⟨p, a2, none⟩) hpb (.int .i64 (PL : Int))).cell 1).trans (show _ = some (Value.int .i64 (b2 : Int)) from rfl)
   have ka1 := ((LA.out.far (p := ⟨p, a2, none⟩) hpa (.int .i64 (PL : Int))).cell 1).trans (show _ = some (Value.int .i64 (a2 : Int)) from rfl)
   have hai : (a2 : Int) < (PL : Int) := by omega
   have hbi : (b2 : Int) < (PL : Int) := by omega
   clear hs1 hs2 hva hvb hcl hz8
   go_region
   have hpg : ¬ oneRow p g := fun e => own_ne HP8.out HT8.out.1 (by decide) (by rw [show g = p from e]; rfl)
   have hpr : ¬ oneRow p r := fun e => by
    obtain ⟨cr, hcr⟩ := HT8.out.row
    exact own_ne HP8.out hcr (by decide) (by rw [show r = p from e]; rfl)
   have k9 := ((Kept.put w8 p a2 (.int .i64 (PL : Int))).trans (Kept.put _ p b2 (.int .i64 (PL : Int))) (fun _ _ h => h)).trans (Kept.drewN (oneRow p) _ 1) (fun _ _ h => h)
   have hT9 := HT8.out.kept k9 hpg hpr
   have LA9 := Lib.hid (LA.out.kept k9 (fun e => hpa e))
   have LB9 := Lib.hid (LB.out.kept k9 (fun e => hpb e))
   have hb9 := HB8.out.trans (k9.below (B := w.heap.size) (by rw [HZ8.out]; omega) (fun k hk e => by have h1 : k = p := e; omega))
   have hz9 := k9.size
   rw [HZ8.out] at hz9
   have hs9 := HS2.out
   have hci : ((cI ps).set a2 (.int .i64 (PL : Int))).set b2 (.int .i64 (PL : Int)) = cI ((ps.set a2 PL).set b2 PL) := by simp [cI, List.map_set]
   rw [hci] at hs9
   change World.ownsRow (((w8.setCell ⟨p, a2, none⟩ (.int .i64 (PL : Int))).setCell ⟨p, b2, none⟩ (.int .i64 (PL : Int))).drewN 1) _ _ _ _ _ _ at hs9
   change Exit.then _ _ _ _ (((w8.setCell ⟨p, a2, none⟩ (.int .i64 (PL : Int))).setCell ⟨p, b2, none⟩ (.int .i64 (PL : Int))).drewN 1)
   have HT9 := Lib.hid hT9
   have HP9 := Lib.hid hs9
   have HB9 := Lib.hid hb9
   clear hT9 hs9 hb9 k9 hci hpg hpr HT8 LA LB HB8 HS2 HP8 ka fa kb fb kb1 ka1 da0 da1 db0 db1 HZ8
   generalize (((w8.setCell ⟨p, a2, none⟩ (.int .i64 (PL : Int))).setCell ⟨p, b2, none⟩ (.int .i64 (PL : Int))).drewN 1) = w9 at *
   have hbs9 : w.heap.size ≤ w9.heap.size := by omega
   go_wp2_with (at_builtin; refine append_one _ (.int .i64 0) rfl (.tmp 40) (.tmp 41) 49 rfl w.heap.size 3 _ _ Tryz.underlying49 Tryz.infoInt rfl rfl _ _ _ rfl HP9.out rfl (by unfold maxLen; omega) (by omega) hbs9 ?_)
   intro v' w10 ho10 hb10 hgr
   have k10 := kept_grown hgr
   have hown : ∀ q, (Value.slice (some ⟨p, 0, none⟩) PL cp2).ownBlock = some q → q = p := fun q e => (Option.some.inj (show some p = some q from e)).symm
   have hT10 := HT9.out.kept k10 (fun e => by
    have h1 := hown _ e
    exact own_ne HP9.out HT9.out.1 (by decide) (by rw [h1]; rfl)) (fun e => by
    obtain ⟨cr, hcr⟩ := HT9.out.row
    have h1 := hown _ e
    exact own_ne HP9.out hcr (by decide) (by rw [h1]; rfl))
   have LA10 := LA9.out.kept k10 (fun e => hpa (hown _ e))
   have LB10 := LB9.out.kept k10 (fun e => hpb (hown _ e))
   have hps : cI ((ps.set a2 PL).set b2 PL) ++ [Value.int .i64 0] = cI (ps2 ps (a1, a2) (b1, b2)) := by unfold ps2; simp only; rw [← HPL.out]; simp [cI]
   rw [hps] at ho10
   have hpl2 : (ps2 ps (a1, a2) (b1, b2)).length = PL + 1 := by rw [ps2_length, ← HPL.out]
   rw [← hpl2] at ho10
   have HT10 := Lib.hid hT10
   have HP10 := Lib.hid ho10
   have HB10 := Lib.hid (HB9.out.trans hb10)
   have hz10 : w9.heap.size ≤ w10.heap.size := k10.size
   have da0 := (LA10.cell 0).trans (show _ = some (Value.int .u64 (a1 : Int)) from rfl)
   have db0 := (LB10.cell 0).trans (show _ = some (Value.int .u64 (b1 : Int)) from rfl)
   have HPL2 := Lib.hid hpl2
   clear hT10 ho10 hb10 hgr k10 hown LA10 LB10 hps LA9 LB9 HT9 HP9 HB9 hpl2
   go_wp2_with fail
   refine (huffSum a1 b1 _ haL.1 hbL.1).mono ?_
   rintro e w11 ⟨rfl, rfl⟩
   have hsw := sumW_lt a1 b1
   generalize hsm : sumW a1 b1 = SM at *
   go_wp2_with fail
   refine (heapPush w.heap.size g r N0 cap _ (SM, PL) w10 HT10.out (by omega) ⟨hsw, by show PL < 1024; omega⟩ (by omega)).mono ?_
   rintro e w12 ⟨rfl, ⟨r', cap', hT12, hrr⟩, hk12⟩
   have hp12 := own_two HP10.out HT10.out hk12 (by decide) (by decide)
   have hb12 := HB10.out.trans (hk12.below (B := w.heap.size) (by omega) (fun k hk e => by
    have h1 := HG.out
    rcases e with e | e <;> omega))
   have hl12 : leftAt w12 w.heap.size g r' (N0 + 1) cap' (pushL ((popL ((popL hl).take (N0 + 1))).take N0) (SM, PL)) (insL (SM, PL) s') (ps2 ps (a1, a2) (b1, b2)) v' n := by
    have hln := HT10.out.len
    refine ⟨hT12, hp12, (pushL_perm _ _).trans ((HP'.out.cons _).trans (insL_perm _ _).symm), ?_, insL_srt _ _ HS'.out, fun q hq => ?_, by rw [HPL2.out]; omega, HG.out.1, ?_⟩
    ·have := pushL_heap (l := (popL ((popL hl).take (N0 + 1))).take N0) (SM, PL) (by rw [hln]; exact HF'.out)
     rwa [hT12.len] at this
    ·rw [HPL2.out]
     rcases List.mem_cons.1 ((insL_perm _ _).mem_iff.1 hq) with rfl | hq
     ·show PL < PL + 1; omega
     ·have := HSP.out q hq; omega
    ·have h1 := HG.out
     rcases hrr with h | h <;> omega
   have HL12 := Lib.hid hl12
   have HB12 := Lib.hid hb12
   have HM12 : Hid (R = mrgP (insL (SM, PL) s') (ps2 ps (a1, a2) (b1, b2))) := by show _ = _; rw [HM2.out, ← HPL.out]
   have hlv : lenOfV v' = PL + 1 := by
    obtain ⟨A5, cp5, hv5, _⟩ := (SeqS.of_owns hp12).form
    rw [hv5, HPL2.out]; rfl
   clear hl12 hb12 hp12 hT12 hk12
   go_wp2
   go_roundw
   case rel => exact ⟨_, _, _, _, _, _, HL12.out, HM12, HB12.out⟩
   case measure => simp only [lenOfV] at hlv ⊢; omega
  ·have HL := Lib.hid hL
   have hRm : R = ps := by rw [hM.out]; exact mrgP_end s ps (by rw [HL.out.len]; omega)
   have HR := Lib.hid hRm
   have x1 : decide ((1 : Int) < (N : Int)) = false := by simp; omega
   have x2 : decide (1 < N) = false := by simp; omega
   clear hM hRm hc
   go_wp2_with fail
   refine (lenC _ r N cap).mono ?_
   rintro e w6 ⟨rfl, rfl⟩
   clear m3 m4
   go_wp2
   go_ret
   exact ⟨_, rfl, by rw [← HM00.out, HR.out]; exact HL.out.2.1, hb⟩
end Go.Proofs.YtmadgdmiipgjoaaGreat
