import Derived.Test.YtmadgdmiipgjoaaGreatZz6
namespace Go.Proofs.YtmadgdmiipgjoaaGreat
open Go.RowKit
set_option linter.unusedVariables false
set_option linter.unusedSimpArgs false
def nxS (ls : List Nat) : Nat → Nat → Nat → List Bool → Option Nat × Nat
 | 0, _, _, _ => (none, 0)
 | _ + 1, _, _, [] => (none, 0)
 | f + 1, k, a, b :: t =>
  if 2 * a + b.toNat < ls.count k then (some (pre ls k + (2 * a + b.toNat)), 1)
  else ((nxS ls f (k + 1) (2 * a + b.toNat - ls.count k) t).1, (nxS ls f (k + 1) (2 * a + b.toNat - ls.count k) t).2 + 1)
theorem nxS_zero (ls : List Nat) (k a : Nat) (l : List Bool) : nxS ls 0 k a l = (none, 0) := by unfold nxS; rfl
theorem nxS_nil (ls : List Nat) (f k a : Nat) : nxS ls f k a [] = (none, 0) := by cases f <;> rfl
theorem drop_bit {l : List Bool} {i : Nat} {b : Bool} (h : l[i]? = some b) : l.drop i = b :: l.drop (i + 1) := by
 obtain ⟨hi, he⟩ := List.getElem?_eq_some_iff.1 h
 rw [List.drop_eq_getElem_cons hi, he]
theorem br_ne {w : World} {g b o : Nat} {s : ByteArray} {i : Nat} {l : List Nat} {k : Nat} {u : Value} (hr : BrAt w g s i) (hu : (c8 l)[k]? = some u) (hc : w.cell? ⟨b, o, none⟩ = some u) : b ≠ g := by
 intro e
 subst e
 rw [hr.1.cell o] at hc
 unfold c8 at hu
 rw [List.getElem?_map] at hu
 rcases hq : l[k]? with _ | n
 ·rw [hq] at hu; cases hu
 ·rw [hq] at hu
  have hu' := Option.some.inj hu
  subst hu'
  match o, hc with
  | 0, hc => simp at hc
  | 1, hc => simp at hc
  | o + 2, hc => simp at hc
theorem cutB_one {s : ByteArray} {i : Nat} {b : Bool} (h : (allB s)[i]? = some b) : cutB s i 1 = [b] := by
 unfold cutB; rw [drop_bit h]; rfl
theorem numB_one (b : Bool) : numB [b] = b.toNat := by cases b <;> rfl
set_option maxHeartbeats 2000000 in
set_option maxRecDepth 100000 in
theorem bookNext (ls bs : List Nat) (v : Value) (g : Nat) (s : ByteArray) (i : Nat) (w : World) (h : LOk ls) (hb : BkOk ls bs 256) (hv : SeqAt w v (c8 bs)) (hr : BrAt w g s i) :
  Calls Tryz.prog 89 #[.agg (bkC (cnA ls 256) v).toArray, .pointer (some ⟨g, 0, none⟩)] w fun e w' =>
   e = .returned (.tuple #[.int .u8 (((nxS ls 56 1 0 ((allB s).drop i)).1.elim 0 fun p => bs.getD p 0 : Nat) : Int), .bool (nxS ls 56 1 0 ((allB s).drop i)).1.isSome]) ∧ BrAt w' g s (i + (nxS ls 56 1 0 ((allB s).drop i)).2) ∧ Kept (oneRow g) w w' := by
 obtain ⟨A, cp, rfl, hq1, hq2, hq3⟩ := hv
 rw [c8_length] at hq1
 have hC : bs.length ≤ 256 := by rw [hb.1]; unfold cod; omega
 unfold maxLen at hq2
 obtain ⟨T, hT⟩ : ∃ T, T = bkC (cnA ls 256) (.slice A (c8 bs).length cp) := ⟨_, rfl⟩
 have hTl : T.length = 58 := by rw [hT, bkC_length (cnA_length ls 256)]
 rw [← hT]
 have HT := Lib.hid hT
 have HB := Lib.hid hb
 have H := Lib.hid h
 have hbl := Lib.hid (c8_length bs)
 have HQ := Lib.hid hq3
 have LT := Lib.hid (Lies.made w 118 T.toArray)
 have HR := Lib.hid (hr.kept (Kept.alloc noRow w (.cells T.toArray 118)) (fun h => h))
 have HK := Lib.hid (Kept.alloc (oneRow g) w (.cells T.toArray 118))
 have hgl := hr.lt
 have HBR := Lib.hid hr
 obtain ⟨gt, hgt⟩ : ∃ gt, gt = w.heap.size := ⟨_, rfl⟩
 have hsz : (w.alloc (.cells T.toArray 118)).heap.size = gt + 1 := by simp [hgt]
 rw [← hgt] at LT hgl
 have HGT := Lib.hid hgt
 clear hT hb h hr hq3 hgt
 go_enter Tryz.func89, Tryz.ntmps89
 go_wp2_with fail
 rw [← HGT.out]
 have HQ2 : Hid (∀ (k : Nat) (u : Value), (c8 bs)[k]? = some u → ∃ b off, A = some ⟨b, off, none⟩ ∧ (w.alloc (.cells T.toArray 118)).cell? ⟨b, off + k, none⟩ = some u ∧ b < gt ∧ b ≠ g) := fun k u hu => by
  obtain ⟨b, off, he, hc⟩ := HQ.out k u hu
  have hlt := World.block_lt_of_cell? w _ hc
  rw [← HGT.out] at hlt
  exact ⟨b, off, he, (((Below.refl _ _).alloc (Nat.le_refl _) (.cells T.toArray 118)).cell (p := ⟨b, off + k, none⟩) (by rw [← HGT.out]; exact hlt)).trans hc, hlt, br_ne HBR.out hu hc⟩
 clear HQ HGT
 generalize w.alloc (.cells T.toArray 118) = w1 at *
 go_loopw [6, 7, 8] (fun ab ps ln wr => ∃ k a : Nat, 1 ≤ k ∧ k ≤ 57 ∧ a < 2 ^ (k - 1) ∧ ln = .int .i64 k ∧ ab = .int .i64 a ∧ ps = .int .i64 (pre ls k : Nat) ∧ i + (k - 1) ≤ 8 * s.size ∧
   Hid (nxS ls 56 1 0 ((allB s).drop i) = ((nxS ls (57 - k) k a ((allB s).drop (i + (k - 1)))).1, (nxS ls (57 - k) k a ((allB s).drop (i + (k - 1)))).2 + (k - 1))) ∧ BrAt wr g s (i + (k - 1)) ∧ Kept (oneRow g) w1 wr)
  (fun _ _ ln _ => 57 - (intOf ln).toNat)
 case atStart => exact ⟨1, 0, by omega, by omega, by decide, rfl, rfl, rfl, HR.out.2.1, rfl, HR.out, Kept.refl _ _⟩
 case round =>
  clear HR
  obtain ⟨k, a, hk1, hk, ha, rfl, rfl, rfl, hil, hN, hr, hkk⟩ := hrel
  have HR := Lib.hid hr
  have HKK := Lib.hid hkk
  have hs40 := hr.2.2
  have lt := LT.out.kept hkk (fun e => by have h1 : gt = g := e; omega)
  have LTR := Lib.hid lt
  clear hr hkk lt
  by_cases hlt : k < 57
  ·have hki : (k : Int) ≤ 56 := by omega
   by_cases he : i + (k - 1) < 8 * s.size
   ·obtain ⟨b, hbit⟩ : ∃ b, (allB s)[i + (k - 1)]? = some b := ⟨_, List.getElem?_eq_getElem (by rw [allB_length]; exact he)⟩
    have hd := drop_bit hbit
    have hTO := bitsTakeOk g s (i + (k - 1)) 1 wr HR.out (by omega) (by omega)
    rw [cutB_one hbit, numB_one] at hTO
    have hNN := hN.out
    rw [hd, show 57 - k = (56 - k) + 1 by omega, nxS] at hNN
    have hcn : (cnA ls 256)[k]? = some (ls.count k) := by
     have := mapR_get (n := 57) (fun k => if k = 0 then 0 else ct ls k 256) (i := k) hlt
     rw [if_neg (by omega), ct_all ls k 256 (by rw [H.out.1]; exact Nat.le_refl _)] at this
     exact this
    have hcl := ls_cnt ls H.out.1 k
    have hpl := pre_le_all H.out (k := k) (by omega)
    have hps : pre ls (k + 1) = pre ls k + ls.count k := by rw [pre, if_neg (by omega)]
    have hpt := sum_counts ls 57 (fun x hx => by have := H.out.2 x hx; omega)
    have hpm := pre_le ls (show k + 1 ≤ 57 by omega)
    have hbl2 : bs.length = 256 - ls.count 0 := by rw [HB.out.1]; unfold cod; rw [ct_all ls 0 256 (by rw [H.out.1]; exact Nat.le_refl _)]
    have hl256 := H.out.1
    have ha2 : 2 * a + b.toNat < 2 ^ k := by
     have e : 2 ^ k = 2 * 2 ^ (k - 1) := by rw [← Nat.pow_succ']; congr 1; omega
     have : b.toNat ≤ 1 := by cases b <;> decide
     omega
    have ha3 : 2 ^ k ≤ 2 ^ 56 := Nat.pow_le_pow_right (by decide) (by omega)
    have ha4 : (2 : Nat) ^ 56 = 72057594037927936 := by decide
    have hai : (a : Int) * 2 + ((b.toNat : Nat) : Int) = ((2 * a + b.toNat : Nat) : Int) := by omega
    have hbt : b.toNat ≤ 1 := by cases b <;> decide
    obtain ⟨a', ha'⟩ : ∃ a', a' = 2 * a + b.toNat := ⟨_, rfl⟩
    rw [← ha'] at hNN ha2 hai
    have ha5 : a' < 72057594037927936 := by omega
    have ha6 : a < 72057594037927936 := by omega
    obtain ⟨bb, hbb⟩ : ∃ bb, bb = b.toNat := ⟨_, rfl⟩
    rw [← hbb] at hTO hai hbt
    have HTO := Lib.hid hTO
    have HNN := Lib.hid hNN
    have HPS := Lib.hid hps
    have HCN := Lib.hid hcn
    have HA2 := Lib.hid ha2
    clear hTO hNN hcn hd hN hbit ha' ha4 ha3 hbb hps ha2 ha
    obtain ⟨c, hc⟩ : ∃ c, c = ls.count k := ⟨_, rfl⟩
    rw [← hc] at HNN HPS hcl HCN
    obtain ⟨P, hP⟩ : ∃ P, P = pre ls k := ⟨_, rfl⟩
    rw [← hP] at HNN HPS hpl ⊢
    have HPP := Lib.hid hP
    have hroom : P + c ≤ bs.length := by have := HPS.out; omega
    clear hpt hpm hbl2 hl256 hc hP
    go_wp2_with fail
    refine HTO.out.mono ?_
    rintro e w2 ⟨rfl, hr2, hk2⟩
    have HR2 := Lib.hid hr2
    have HK2 := Lib.hid (HKK.out.trans hk2 (fun _ _ h => h))
    have lt2 := LTR.out.kept hk2 (fun e => by have h1 : gt = g := e; omega)
    have ck : w2.cell? ⟨gt, k, none⟩ = some (.int .i64 (c : Int)) := (lt2.cell k).trans (by rw [List.getElem?_toArray, HT.out]; exact bkC_get HCN.out)
    have c57 : w2.cell? ⟨gt, 57, none⟩ = some (.slice A (c8 bs).length cp) := (lt2.cell 57).trans (by rw [List.getElem?_toArray, HT.out]; exact bkC_last (cnA_length ls 256))
    rw [hbl.out] at c57
    have hk57 : (k : Int) < 57 := by omega
    clear hr2 hk2 lt2 HTO
    by_cases hac : a' < c
    ·have e1 : decide ((a' : Int) < (c : Int)) = true := by simp; omega
     have e2 : decide (a' < c) = true := by simpa using hac
     obtain ⟨x, hx⟩ : ∃ x, bs[P + a']? = some x := ⟨_, List.getElem?_eq_getElem (by omega)⟩
     obtain ⟨q, off, rfl, cq0, hqg, hqn⟩ := HQ2.out (P + a') _ (c8_get hx)
     have cq : w2.cell? ⟨q, off + (P + a'), none⟩ = some (.int .u8 (x : Int)) := by
      have hat := HK2.out.at_ q (by rw [hsz]; omega) (fun e => hqn e)
      have : w2.cell? ⟨q, off + (P + a'), none⟩ = w1.cell? ⟨q, off + (P + a'), none⟩ := by simp only [World.cell?, hat]
      rw [this]; exact cq0
     have hgx : bs.getD (P + a') 0 = x := getD_of hx
     have hNX := HNN.out
     rw [if_pos hac] at hNX
     have HNX := Lib.hid hNX
     have HGX := Lib.hid hgx
     have hPa : (P : Int) + (a' : Int) < (bs.length : Int) := by omega
     have hPa2 : P + a' < bs.length := by omega
     clear hNX hgx hx cq0 HNN hac hroom
     go_wp2
     go_ret2
     exact ⟨by rw [HNX.out]; show _ = Ending.returned (.tuple #[.int .u8 ((bs.getD (P + a') 0 : Nat) : Int), .bool true]); rw [HGX.out]; rfl, by rw [HNX.out, show i + (1 + (k - 1)) = i + (k - 1) + 1 by omega]; exact HR2.out, HK.out.trans HK2.out (fun _ _ h => h)⟩
    ·have e1 : decide ((a' : Int) < (c : Int)) = false := by simp; omega
     have e2 : decide (a' < c) = false := by simpa using hac
     have hsub : (a' : Int) - (c : Int) = ((a' - c : Nat) : Int) := by omega
     have hNX := HNN.out
     rw [if_neg hac] at hNX
     have HNX := Lib.hid hNX
     have hs2 : i + (k - 1) + 1 = i + (k + 1 - 1) := by omega
     have HS2 := Lib.hid hs2
     clear hNX HNN hac hroom hs2
     go_wp2_with fail
     go_roundw
     case rel =>
      refine ⟨k + 1, a' - c, by omega, by omega, ?_, by go_num, by go_num, by rw [HPS.out]; go_num, by omega, ?_, by rw [← HS2.out]; exact HR2.out, HK2.out⟩
      ·have := HA2.out
       show a' - c < 2 ^ k
       omega
      ·show _ = _
       rw [HNX.out, ← HS2.out, show 57 - (k + 1) = 56 - k by omega]
       exact Prod.ext rfl (by show _ + 1 + (k - 1) = _ + (k + 1 - 1); omega)
     case measure => simp [intOf]; omega
   ·have hie : i + (k - 1) = 8 * s.size := by omega
    have hd : (allB s).drop (i + (k - 1)) = [] := List.drop_of_length_le (by rw [allB_length]; omega)
    have hNN := hN.out
    rw [hd, nxS_nil] at hNN
    have HNN := Lib.hid hNN
    have hTE := bitsTakeEnd g s (i + (k - 1)) 1 _ HR.out (by omega) (by omega)
    have HTE := Lib.hid hTE
    clear hN hNN hd hTE
    go_wp2_with fail
    refine HTE.out.mono ?_
    rintro e w2 ⟨rfl, m, rfl⟩
    go_wp2
    go_ret2
    exact ⟨by rw [HNN.out]; rfl, by rw [HNN.out]; simpa using HR.out.kept (Kept.drewN noRow _ m) (fun h => h), (HK.out.trans HKK.out (fun _ _ h => h)).trans (Kept.drewN _ _ m) (fun _ _ h => h)⟩
  ·obtain rfl : k = 57 := by omega
   have hNN := hN.out
   rw [show 57 - 57 = 0 from rfl, nxS_zero] at hNN
   have HNN := Lib.hid hNN
   clear hN hNN ha
   go_wp2
   go_ret2
   exact ⟨by rw [HNN.out]; rfl, by rw [HNN.out, Nat.zero_add]; exact HR.out, HK.out.trans HKK.out (fun _ _ h => h)⟩
theorem pre_class (ls : List Nat) : ∀ m p, p < pre ls m → ∃ k, 0 < k ∧ k < m ∧ pre ls k ≤ p ∧ p < pre ls k + ls.count k
 | 0, p, h => by rw [pre] at h; omega
 | m + 1, p, h => by
  by_cases hp : p < pre ls m
  ·obtain ⟨k, h1, h2, h3⟩ := pre_class ls m p hp
   exact ⟨k, h1, by omega, h3⟩
  ·rw [pre] at h
   by_cases hm : m = 0
   ·rw [if_pos hm] at h; omega
   ·rw [if_neg hm] at h; exact ⟨m, by omega, by omega, by omega, h⟩
theorem pos_of {ls : List Nat} (hl : ls.length = 256) (h56 : ∀ x ∈ ls, x ≤ 56) {p : Nat} (h : p < cod ls 256) : ∃ i k, i < 256 ∧ 0 < k ∧ ls[i]? = some k ∧ pre ls k + ct ls k i = p := by
 have h1 := sum_counts ls 57 (fun x hx => by have := h56 x hx; omega)
 unfold cod at h
 rw [ct_all ls 0 256 (by omega)] at h
 obtain ⟨k, h2, h3, h4, h5⟩ := pre_class ls 57 p (by omega)
 obtain ⟨i, hi, hk, hc⟩ := ct_nth ls k 256 (p - pre ls k) (by rw [ct_all ls k 256 (by omega)]; omega)
 exact ⟨i, k, hi, h2, hk, by omega⟩
theorem bk_uniq {ls a b : List Nat} (hl : ls.length = 256) (h56 : ∀ x ∈ ls, x ≤ 56) (ha : BkOk ls a 256) (hb : BkOk ls b 256) : a = b := by
 apply List.ext_getElem?
 intro p
 by_cases hp : p < cod ls 256
 ·obtain ⟨i, k, hi, hk, hg, he⟩ := pos_of hl h56 hp
  rw [← he, ha.2 i k hi hg hk, hb.2 i k hi hg hk]
 ·rw [List.getElem?_eq_none (by rw [ha.1]; omega), List.getElem?_eq_none (by rw [hb.1]; omega)]
def byS (ls : List Nat) : Nat → List Nat
 | 0 => List.replicate (cod ls 256) 0
 | b + 1 => if ls.getD b 0 = 0 then byS ls b else (byS ls b).set (pre ls (ls.getD b 0) + ct ls (ls.getD b 0) b) b
def byL (ls : List Nat) : List Nat := byS ls 256
theorem byS_ok {ls : List Nat} (hl : ls.length = 256) (h56 : ∀ x ∈ ls, x ≤ 56) : ∀ b, b ≤ 256 → BkOk ls (byS ls b) b
 | 0, _ => ⟨by simp [byS], fun i k hi => by omega⟩
 | b + 1, h => by
  have ih := byS_ok hl h56 b (by omega)
  have hg := get_of (ls := ls) (i := b) (by omega)
  unfold byS
  split
  ·next h0 => rw [h0] at hg; exact bkOk_same ih hg
  ·next h0 => exact bkOk_step ih hg (by omega) (pre_room hl h56 (by omega) hg)
theorem byL_ok {ls : List Nat} (hl : ls.length = 256) (h56 : ∀ x ∈ ls, x ≤ 56) : BkOk ls (byL ls) 256 := byS_ok hl h56 256 (Nat.le_refl _)
theorem byS_lt (ls : List Nat) : ∀ b, b ≤ 256 → ∀ x ∈ byS ls b, x < 256
 | 0, _, x, hx => by rw [byS] at hx; rw [List.eq_of_mem_replicate hx]; decide
 | b + 1, h, x, hx => by
  unfold byS at hx
  split at hx
  ·exact byS_lt ls b (by omega) x hx
  ·rcases List.mem_or_eq_of_mem_set hx with hx | rfl
   ·exact byS_lt ls b (by omega) x hx
   ·omega
theorem byL_lt (ls : List Nat) : ∀ x ∈ byL ls, x < 256 := byS_lt ls 256 (Nat.le_refl _)
theorem byL_getD (ls : List Nat) (p : Nat) : (byL ls).getD p 0 < 256 := by
 rw [List.getD_eq_getElem?_getD]
 rcases hq : (byL ls)[p]? with _ | q
 ·decide
 ·exact byL_lt ls q (List.mem_of_getElem? hq)
def doneB (s : ByteArray) (i : Nat) : Bool := decide (8 * s.size - i < 8 ∧ numB (cutB s i (8 * s.size - i)) = 0)
def doneE (s : ByteArray) (i : Nat) : Nat := if doneB s i = true then 0 else 3
set_option maxHeartbeats 1000000 in
theorem bitsDone (g : Nat) (s : ByteArray) (i : Nat) (w : World) (h : BrAt w g s i) : Calls Tryz.prog 90 #[.pointer (some ⟨g, 0, none⟩)] w fun e w' =>
  e = .returned (.int .i64 (doneE s i : Nat)) ∧ Below w.heap.size w w' := by
 have HL := Lib.hid (fun n => bitsLeft g s i (w.drewN n) h)
 have H := Lib.hid h
 have hi := h.2.1
 have hs := h.2.2
 have c0 := (h.1.cell 0).trans (show _ = some (Value.string s) from rfl)
 have c1 := (h.1.cell 1).trans (show _ = some (Value.int .i64 (i : Int)) from rfl)
 clear h
 by_cases h8 : 8 ≤ 8 * s.size - i
 ·have hE : doneE s i = 3 := by unfold doneE doneB; rw [decide_eq_false (by omega), if_neg (by decide)]
  have HE := Lib.hid hE
  have e0 : decide ((8 : Int) ≤ ((8 * s.size - i : Nat) : Int)) = true := by rw [decide_eq_true_eq]; omega
  clear hE
  go_enter Tryz.func90, Tryz.ntmps90
  go_wp2_with fail
  refine (HL.out 0).mono ?_
  rintro e w' ⟨rfl, n, rfl⟩
  go_wp2
  go_ret
  exact ⟨by rw [HE.out]; rfl, below_drewN (Below.refl _ _) _⟩
 ·have e0 : decide ((8 : Int) ≤ ((8 * s.size - i : Nat) : Int)) = false := by rw [decide_eq_false_iff_not]; omega
  have hE : doneE s i = if numB (cutB s i (8 * s.size - i)) = 0 then 0 else 3 := by
   unfold doneE doneB
   by_cases hz : numB (cutB s i (8 * s.size - i)) = 0
   ·rw [decide_eq_true ⟨by omega, hz⟩, if_pos rfl, if_pos hz]
   ·rw [decide_eq_false (fun h => hz h.2), if_neg (by decide), if_neg hz]
  have HE := Lib.hid hE
  have hT := fun g' w' (hr : BrAt w' g' s i) => bitsTakeOk g' s i (8 * s.size - i) w' hr (by omega) (by omega)
  have HT := Lib.hid hT
  obtain ⟨N, hN⟩ : ∃ N, N = numB (cutB s i (8 * s.size - i)) := ⟨_, rfl⟩
  rw [← hN] at HT HE
  obtain ⟨L, hL⟩ : ∃ L, L = 8 * s.size - i := ⟨_, rfl⟩
  rw [← hL] at HT HL e0
  have HLE := Lib.hid hL
  clear hE hT hN hL
  go_enter Tryz.func90, Tryz.ntmps90
  go_wp2_with fail
  refine (HL.out 0).mono ?_
  rintro e w1 ⟨rfl, n, hw1⟩
  have hb1 : Below w.heap.size w w1 := by rw [hw1]; exact below_drewN (Below.refl _ _) _
  have h1 := H.out.later hb1
  have c0 := (h1.1.cell 0).trans (show _ = some (Value.string s) from rfl)
  have c1 := (h1.1.cell 1).trans (show _ = some (Value.int .i64 (i : Int)) from rfl)
  have HL1 := Lib.hid (fun n => bitsLeft g s i (w1.drewN n) h1)
  have hbA := hb1.alloc hb1.size (.cells #[.string s, .int .i64 (i : Int)] 149)
  have hrA : BrAt (w1.alloc (.cells #[.string s, .int .i64 (i : Int)] 149)) w1.heap.size s i := ⟨Lies.made _ _ _, hi, hs⟩
  have hgA := h1.later ((Below.refl w1.heap.size w1).alloc (Nat.le_refl _) (.cells #[.string s, .int .i64 (i : Int)] 149))
  have HRA := Lib.hid hrA
  have HGA := Lib.hid hgA
  have hg1 : w.heap.size ≤ w1.heap.size := hb1.size
  clear hw1 h1 HL hrA hgA H
  go_wp2_with fail
  generalize w1.alloc (.cells #[.string s, .int .i64 (i : Int)] 149) = w2 at *
  generalize w1.heap.size = g2 at *
  have HL2 := Lib.hid (bitsLeft g s i w2 HGA.out)
  rw [← HLE.out] at HL2
  clear c0 c1 HL1 hb1
  refine HL2.out.mono ?_
  rintro e w3 ⟨rfl, n3, hw3⟩
  have hr3 : BrAt w3 g2 s i := by rw [hw3]; exact HRA.out
  have hb3 : Below w.heap.size w w3 := by rw [hw3]; exact below_drewN hbA _
  have HT3 := Lib.hid (HT.out g2 w3 hr3)
  clear hw3 hr3 HL2 HRA HGA hbA HT
  go_wp2_with fail
  refine HT3.out.mono ?_
  rintro e w4 ⟨rfl, _, hk4⟩
  have hb4 : Below w.heap.size w w4 := hb3.trans (hk4.below (by have := hb3.size; omega) (fun k hk (e : k = g2) => by omega))
  clear hk4 HT3
  by_cases hz : N = 0
  ·have hE := HE.out
   rw [if_pos hz] at hE
   have HE2 := Lib.hid hE
   have e5 : ((N : Int) != 0) = false := by simp; omega
   clear hE hz HE
   go_wp2
   go_ret
   exact ⟨by rw [HE2.out]; rfl, hb4⟩
  ·have hE := HE.out
   rw [if_neg hz] at hE
   have HE2 := Lib.hid hE
   have e5 : ((N : Int) != 0) = true := by simp; omega
   clear hE hz HE
   go_wp2
   go_ret
   exact ⟨by rw [HE2.out]; rfl, hb4⟩
def cellsL (l : List Bool) : List Value := l.map Value.bool
theorem cellsL_length (l : List Bool) : (cellsL l).length = l.length := by simp [cellsL]
theorem cellsL_get {l : List Bool} {k : Nat} {b : Bool} (h : l[k]? = some b) : (cellsL l)[k]? = some (.bool b) := by simp [cellsL, h]
theorem take_nextB {α : Type} {l : List α} {k : Nat} {b : α} (h : l[k]? = some b) : l.take (k + 1) = l.take k ++ [b] := by rw [List.take_add_one, h]; rfl
def dcD (ls : List Nat) (l : List Bool) : Nat → Nat → List UInt8 × Nat × Bool
 | 0, i => ([], i, true)
 | n + 1, i =>
  match (nxS ls 56 1 0 (l.drop i)).1 with
  | none => ([], i + (nxS ls 56 1 0 (l.drop i)).2, false)
  | some p => (UInt8.ofNat ((byL ls).getD p 0) :: (dcD ls l n (i + (nxS ls 56 1 0 (l.drop i)).2)).1, (dcD ls l n (i + (nxS ls 56 1 0 (l.drop i)).2)).2.1, (dcD ls l n (i + (nxS ls 56 1 0 (l.drop i)).2)).2.2)
def dcT (ls : List Nat) (s : ByteArray) (n : Nat) : List UInt8 := if (dcD ls (allB s) n 0).2.2 = true then (dcD ls (allB s) n 0).1 else []
def dcB (ls : List Nat) (s : ByteArray) (n : Nat) : Bool := (dcD ls (allB s) n 0).2.2 && decide (doneE s (dcD ls (allB s) n 0).2.1 = 0)
theorem dcD_length (ls : List Nat) (l : List Bool) : ∀ n i, (dcD ls l n i).1.length ≤ n
 | 0, i => by simp [dcD]
 | n + 1, i => by
  unfold dcD
  split
  ·simp
  ·have := dcD_length ls l n (i + (nxS ls 56 1 0 (l.drop i)).2)
   simp only [List.length_cons]; omega
theorem dcT_length (ls : List Nat) (s : ByteArray) (n : Nat) : (dcT ls s n).length ≤ n := by
 unfold dcT; split
 ·exact dcD_length _ _ _ _
 ·exact Nat.zero_le _
theorem dcD_zero (ls : List Nat) (l : List Bool) (i : Nat) : dcD ls l 0 i = ([], i, true) := rfl
theorem dcD_none {ls : List Nat} {l : List Bool} {n i : Nat} (h : (nxS ls 56 1 0 (l.drop i)).1 = none) : dcD ls l (n + 1) i = ([], i + (nxS ls 56 1 0 (l.drop i)).2, false) := by
 unfold dcD; rw [h]
theorem dcD_some {ls : List Nat} {l : List Bool} {n i p : Nat} (h : (nxS ls 56 1 0 (l.drop i)).1 = some p) : dcD ls l (n + 1) i =
  (UInt8.ofNat ((byL ls).getD p 0) :: (dcD ls l n (i + (nxS ls 56 1 0 (l.drop i)).2)).1, (dcD ls l n (i + (nxS ls 56 1 0 (l.drop i)).2)).2.1, (dcD ls l n (i + (nxS ls 56 1 0 (l.drop i)).2)).2.2) := by
 conv => lhs; unfold dcD
 rw [h]
set_option maxHeartbeats 2000000 in
set_option maxRecDepth 100000 in
theorem huffDecode (ls : List Nat) (s : ByteArray) (n : Nat) (w : World) (h : LOk ls) (hs : s.size ≤ 1099511627776) (hn : n ≤ 1099511627776) :
  Calls Tryz.prog 58 #[.string s, .agg (c8 ls).toArray, .int .u64 n] w fun e w' => e = .returned (.tuple #[.string (textB (dcT ls s n)), .bool (dcB ls s n)]) ∧ Below w.heap.size w w' := by
 have hbk := fun w => huffNewBook ls w h
 have hby := byL_ok h.1 h.2
 have hlen : (c8 ls).length = 256 := by rw [c8_length]; exact h.1
 obtain ⟨L, hL⟩ : ∃ L, L = c8 ls := ⟨_, rfl⟩
 rw [← hL] at hlen hbk ⊢
 have hi1 : (Tryz.prog.info? 78).map (·.size) = some L.length := by rw [hlen]; exact info8
 have H := Lib.hid h
 have HBK := Lib.hid hbk
 have HBY := Lib.hid hby
 have HI1 := Lib.hid hi1
 have l0 := Lies.made w 78 L.toArray
 have hb0 := (Below.refl w.heap.size w).alloc (Nat.le_refl _) (.cells L.toArray 78)
 have L0 := Lib.hid l0
 have HB0 := Lib.hid hb0
 have hsz : (w.alloc (.cells L.toArray 78)).heap.size = w.heap.size + 1 := by simp
 have HSZ := Lib.hid hsz
 have HDT : Hid (dcT ls s n = if (dcD ls (allB s) n 0).2.2 = true then (dcD ls (allB s) n 0).1 else []) := rfl
 have HDB : Hid (dcB ls s n = ((dcD ls (allB s) n 0).2.2 && decide (doneE s (dcD ls (allB s) n 0).2.1 = 0))) := rfl
 clear hbk hby hL hi1 l0 hb0 hsz h
 go_enter Tryz.func58, Tryz.ntmps58
 go_wp2_with fail
 generalize w.alloc (.cells L.toArray 78) = w1 at *
 refine (bitsNew s w1 hs).mono ?_
 rintro e w2 ⟨rfl, hr2, hk2⟩
 have L2 := Lib.hid (L0.out.kept hk2 (fun h => h))
 have hz2 : w.heap.size + 1 ≤ w2.heap.size := by have := hk2.size; rw [HSZ.out] at this; exact this
 have HB2 := Lib.hid (HB0.out.trans (hk2.below (B := w.heap.size) (by rw [HSZ.out]; omega) (fun _ _ h => h)))
 have HR2 := Lib.hid hr2
 have hrl := hr2.lt
 have hgr : w.heap.size + 1 ≤ w1.heap.size := by rw [HSZ.out]; exact Nat.le_refl _
 obtain ⟨gr, hgrr⟩ : ∃ gr, gr = w1.heap.size := ⟨_, rfl⟩
 rw [← hgrr] at HR2 hrl hgr ⊢
 have HRG := Lib.hid (arr_range L2.out)
 clear hr2 hk2 L0 HB0 HSZ hgrr
 go_wp2_with (refine wpList_load_mid rfl 78 _ rfl w.heap.size 0 rfl L _ HRG.out under8 rfl HI1.out ?_)
 refine (HBK.out w2).mono ?_
 rintro e w3 ⟨v, bs, rfl, hown, hbs, hb3⟩
 obtain rfl : bs = byL ls := bk_uniq H.out.1 H.out.2 hbs HBY.out
 have HR3 := Lib.hid (HR2.out.later hb3)
 have HB3 := Lib.hid (HB2.out.trans (hb3.mono (by omega)))
 have hz3 : w2.heap.size ≤ w3.heap.size := hb3.size
 have HO3 := Lib.hid hown
 obtain ⟨T, hT⟩ : ∃ T, T = bkC (cnA ls 256) v := ⟨_, rfl⟩
 have hTl : T.length = 58 := by rw [hT, bkC_length (cnA_length ls 256)]
 obtain ⟨A, cp, hv, _⟩ := (SeqS.of_owns hown).form
 have hone : T.toArray.all (·.oneCell') = true := by
  rw [hT, hv]
  refine all_oneCell_toArray (fun v hv => ?_)
  unfold bkC at hv
  rcases List.mem_append.1 hv with hv | hv
  ·obtain ⟨i, _, rfl⟩ := List.mem_map.1 hv; rfl
  ·rw [List.mem_singleton.1 hv]; rfl
 have hnx := fun g i w hv hr => bookNext ls (byL ls) v g s i w H.out HBY.out hv hr
 rw [← hT] at hnx ⊢
 obtain ⟨zb, hzb⟩ : ∃ zb : Array Value, zb = Array.replicate 57 (.int .i64 0) ++ #[.slice none 0 0] := ⟨_, rfl⟩
 have hzbk := zeroBk
 rw [← hzb] at hzbk
 have hzbs : zb.size = 58 := by rw [hzb]; simp
 have hi4 : (Tryz.prog.info? 118).map (·.size) = some T.toArray.size := by rw [List.size_toArray, hTl]; exact infoBk
 have hi5 : (Tryz.prog.info? 118).map (·.size) = some T.length := by rw [hTl]; exact infoBk
 have HI4 := Lib.hid hi4
 have HI5 := Lib.hid hi5
 have HONE := Lib.hid hone
 have HNX := Lib.hid hnx
 have HTH := Lib.hid (arr_there (Lies.made w3 118 zb) (n := T.toArray.size) (hzbs.trans (by rw [List.size_toArray, hTl])))
 have lbk := arr_store (Lies.made w3 118 zb) (L := T) (hzbs.trans hTl.symm)
 have hk4 := (Kept.alloc (oneRow w3.heap.size) w3 (.cells zb 118)).trans (kept_cellsH T 0 _ (g := w3.heap.size)) (fun _ _ h => h)
 have HR4 := Lib.hid (HR3.out.kept hk4 (fun e => by have h1 : gr = w3.heap.size := e; omega))
 have HO4 := Lib.hid (owns_kept HO3.out hk4 (fun q cur _ hl e => by have h1 : q = w3.heap.size := e; have := hl.lt; omega))
 have HB4 := Lib.hid (HB3.out.trans (hk4.below (B := w.heap.size) (by omega) (fun k hk e => by have h1 : k = w3.heap.size := e; omega)))
 have hz4 := size_setCells w3.heap.size T 0 (w3.alloc (.cells zb 118))
 rw [show (w3.alloc (.cells zb 118)).heap.size = w3.heap.size + 1 by simp] at hz4
 have LBK := Lib.hid lbk
 clear hown hbs hb3 hT hTl hone hzb hzbs hi4 hi5 lbk hk4 hnx hv HBK HR3 HB3 HO3 HRG L2 HR2 HB2
 go_wp2_with (refine wpList_store_mid rfl 118 _ _ rfl w3.heap.size 0 T.toArray rfl rfl HTH.out HI4.out HONE.out ?_)
 obtain ⟨gk, hgk⟩ : ∃ gk, gk = w3.heap.size := ⟨_, rfl⟩
 generalize (w3.alloc (.cells zb 118)).setCells w3.heap.size 0 T = w4 at *
 rw [← hgk] at LBK hz4 hz3 ⊢
 have HZ4 := Lib.hid hz4
 clear hgk HTH hzbk hz4
 go_loopw [10] (fun t wr => ∃ (m i : Nat) (acc : List UInt8), acc.length + m = n ∧ wr.ownsRow w4.heap.size 5 1 t acc.length (cellsB acc) ∧
   Hid (dcD ls (allB s) n 0 = (acc ++ (dcD ls (allB s) m i).1, (dcD ls (allB s) m i).2.1, (dcD ls (allB s) m i).2.2)) ∧ BrAt wr gr s i ∧ Kept (oneRow gr) w4 wr)
  (fun t _ => n - lenOfV t)
 case atStart => exact ⟨n, 0, [], by simp, World.ownsRow_nil _ _ _ _, by show _ = _; rw [List.nil_append], HR4.out, Kept.refl _ _⟩
 case round =>
  obtain ⟨m, i, acc, hmn, ho, hD, hr, hk⟩ := hrel
  have HO := Lib.hid ho
  have HR := Lib.hid hr
  have HK := Lib.hid hk
  obtain ⟨A2, cp2, rfl, hq1, hq2, _⟩ := (SeqS.of_owns ho).form
  unfold maxLen at hq2
  obtain ⟨N, hN⟩ : ∃ N, N = acc.length := ⟨_, rfl⟩
  rw [← hN] at hmn hq1 ⊢
  have HNN := Lib.hid hN
  have ho2 := ho
  rw [← hN] at ho2
  have HO2 := Lib.hid ho2
  have hNl : N ≤ 1099511627776 := by omega
  have en : IntKind.u64.wrap (N : Int) = (N : Int) := by rw [IntKind.wrap_u64]; omega
  have lk := LBK.out.kept hk (fun e => by have h1 : gk = gr := e; omega)
  have HRK := Lib.hid (arr_range lk)
  have hob := owns_kept HO4.out hk (fun q cur _ hl e => by
   have h1 : q = gr := e
   subst h1
   exact absurd (hl.same HR4.out.1).1 (by decide))
  have HOB := Lib.hid (SeqAt.of_owns hob)
  have hwz : w4.heap.size ≤ wr.heap.size := hk.size
  clear ho hr hk hN ho2 lk hob
  rcases m with _ | m
  ·have x1 : decide ((N : Int) < (n : Int)) = false := by simp; omega
   have x2 : decide (N < n) = false := by simp; omega
   have hDD := hD.out
   rw [dcD_zero, List.append_nil] at hDD
   have hT1 : dcT ls s n = acc := by rw [HDT.out, hDD]; rfl
   have hB1 : dcB ls s n = decide (doneE s i = 0) := by rw [HDB.out, hDD]; rfl
   have HT1 := Lib.hid hT1
   have HB1 := Lib.hid hB1
   have hBw := HB4.out.trans (HK.out.below (B := w.heap.size) (by rw [HZ4.out]; omega) (fun k hk e => by have h1 : k = gr := e; omega))
   have HBW := Lib.hid hBw
   have hKeep : Hid (∀ a b : World, Below a.heap.size a b → (a.ownsRow w4.heap.size 5 1 (.slice A2 N cp2) acc.length (cellsB acc) ∧ BrAt a gr s i) → (b.ownsRow w4.heap.size 5 1 (.slice A2 N cp2) acc.length (cellsB acc) ∧ BrAt b gr s i)) :=
    fun a b hb h => ⟨owns_below h.1 hb, h.2.later hb⟩
   have HC : Hid (∀ w', ((w'.ownsRow w4.heap.size 5 1 (.slice A2 N cp2) acc.length (cellsB acc) ∧ BrAt w' gr s i) ∧ Below w.heap.size w w' ∧ w.heap.size ≤ w'.heap.size) →
     Calls Tryz.prog 90 #[.pointer (some ⟨gr, 0, none⟩)] w' fun e w2 => e = .returned (.int .i64 (doneE s i : Nat)) ∧ Below w'.heap.size w' w2) := fun w' h => bitsDone gr s i w' h.1.2
   have HOr : Hid (wr.ownsRow w4.heap.size 5 1 (.slice A2 N cp2) acc.length (cellsB acc)) := by
    have := HO.out
    rw [← HNN.out] at this
    show World.ownsRow _ _ _ _ _ _ _
    rw [← HNN.out]
    exact this
   obtain ⟨E, hE⟩ : ∃ E, E = doneE s i := ⟨_, rfl⟩
   rw [← hE] at HC
   have HE := Lib.hid hE
   have hww : w.heap.size ≤ wr.heap.size := HBW.out.size
   clear hDD hT1 hB1 hBw hD hE
   go_wp2_with fail
   try simp only [Act.put, List.setIfInBounds_toArray, List.set_cons_zero, List.set_cons_succ]
   refine wp_region_held_drew (S := fun x => (x.ownsRow w4.heap.size 5 1 (.slice A2 N cp2) acc.length (cellsB acc) ∧ BrAt x gr s i) ∧ Below w.heap.size w x ∧ w.heap.size ≤ x.heap.size) (by kernel_rfl)
    ⟨⟨HOr.out, HR.out.kept (Kept.drewN noRow wr 1) (fun h => h)⟩, below_drewN HBW.out 1, hww⟩ (fun hHeld => ?_)
   refine wpAnyH_take (i := 0) (v := (.slice A2 N cp2)) rfl (by kernel_rfl) (by kernel_rfl) (by kernel_rfl) (fun _ _ _ h => h) (Or.inl ⟨by rfl, fun w h => by (simp only [List.getElem_toArray, List.getElem_cons_succ, List.getElem_cons_zero]; clear h; go_simp)⟩) (by assumption) ?_
   simp only [Act.put, List.getElem_toArray, List.getElem_cons_succ, List.getElem_cons_zero, List.setIfInBounds_toArray, List.set_cons_zero, List.set_cons_succ]
   refine wpAnyH_take (i := 1) (v := (.string (textB acc))) rfl (by kernel_rfl) (by kernel_rfl) (by kernel_rfl) (fun _ _ _ h => h) (Or.inl ⟨by rfl, fun w h => by (simp only [List.getElem_toArray, List.getElem_cons_succ, List.getElem_cons_zero]; have h1 := convert_owned w w4.heap.size (.slice A2 N cp2) acc acc.length rfl h.1.1; clear h; go_simp)⟩) (by assumption) ?_
   simp only [Act.put, List.getElem_toArray, List.getElem_cons_succ, List.getElem_cons_zero, List.setIfInBounds_toArray, List.set_cons_zero, List.set_cons_succ]
   refine wpAnyH_take (i := 2) (v := (.pointer (some ⟨gr, 0, none⟩))) rfl (by kernel_rfl) (by kernel_rfl) (by kernel_rfl) (fun _ _ _ h => h) (Or.inl ⟨by rfl, fun w h => by (simp only [List.getElem_toArray, List.getElem_cons_succ, List.getElem_cons_zero]; clear h; go_simp)⟩) (by assumption) ?_
   simp only [Act.put, List.getElem_toArray, List.getElem_cons_succ, List.getElem_cons_zero, List.setIfInBounds_toArray, List.set_cons_zero, List.set_cons_succ]
   refine wpAnyH_ready (rs := [3]) (by kernel_rfl) (by simp) ?_
   refine AllReadyH.cons rfl (fun K hK => ?_) AllReadyH.nil
   rw [if_pos (by rfl)]
   go_wp2_with fail
   refine (keep_callS hKeep.out (HC.out _ hHeld) (by assumption)).mono ?_
   rintro e w' ⟨he, q⟩
   cases he
   dsimp only
   refine hK.out _ _ q (fun hHeld => ?_)
   clear hK K
   try simp only [Act.put, List.setIfInBounds_toArray, List.set_cons_zero, List.set_cons_succ]
   refine wpAnyH_take (i := 4) (v := (.bool ((E : Int) == 0))) rfl (by kernel_rfl) (by kernel_rfl) (by kernel_rfl) (fun _ _ _ h => h) (Or.inl ⟨by rfl, fun w h => by (simp only [List.getElem_toArray, List.getElem_cons_succ, List.getElem_cons_zero]; clear h; go_simp)⟩) (by assumption) ?_
   simp only [Act.put, List.getElem_toArray, List.getElem_cons_succ, List.getElem_cons_zero, List.setIfInBounds_toArray, List.set_cons_zero, List.set_cons_succ]
   refine wpAnyH_ready (rs := [5]) (by kernel_rfl) (by simp) ?_
   refine AllReadyH.cons rfl (fun K hK => ?_) AllReadyH.nil
   rw [if_pos (by rfl)]
   go_wp2_with fail
   refine hK.out _ _ (by assumption) (fun hHeld => ?_)
   clear hK K
   try simp only [Act.put, List.setIfInBounds_toArray, List.set_cons_zero, List.set_cons_succ]
   refine wpAnyH_ready (rs := [6]) (by kernel_rfl) (by simp) ?_
   refine AllReadyH.cons rfl (fun K hK => ?_) AllReadyH.nil
   rw [if_pos (by rfl)]
   go_wp2_with fail
   refine hK.out _ _ (by assumption) (fun hHeld => ?_)
   clear hK K
   try simp only [Act.put, List.setIfInBounds_toArray, List.set_cons_zero, List.set_cons_succ]
   refine wpAnyH_done (by kernel_rfl) ?_ _
   go_wp2
   go_ret2
   exact ⟨by rw [HT1.out, HB1.out, ← HE.out, show ((E : Int) == 0) = decide (E = 0) by rw [Bool.eq_iff_iff]; simp]; rfl, And.left (And.right (by assumption))⟩
  ·have x1 : decide ((N : Int) < (n : Int)) = true := by simp; omega
   have x2 : decide (N < n) = true := by simp; omega
   obtain ⟨R, hR⟩ : ∃ R, R = nxS ls 56 1 0 ((allB s).drop i) := ⟨_, rfl⟩
   have HRR := Lib.hid hR
   have hnx := HNX.out gr i wr HOB.out HR.out
   rw [← hR] at hnx
   have HN2 := Lib.hid hnx
   clear hnx hR
   go_wp2_with (refine wpList_load_mid rfl 118 _ rfl gk 0 rfl T _ HRK.out Tryz.underlying118 rfl HI5.out ?_)
   refine HN2.out.mono ?_
   rintro e w5 ⟨rfl, hr5, hk5⟩
   have HR5 := Lib.hid hr5
   have HK5 := Lib.hid (HK.out.trans hk5 (fun _ _ h => h))
   have ho5 := owns_kept HO2.out hk5 (fun q cur _ hl e => by
    have h1 : q = gr := e
    subst h1
    exact absurd (hl.same HR.out.1).1 (by decide))
   have HO5 := Lib.hid ho5
   have hw5 : w4.heap.size ≤ w5.heap.size := HK5.out.size
   obtain ⟨Ro, Rn⟩ := R
   clear hr5 hk5 ho5 HN2
   cases Ro with
   | none =>
    have hDD := hD.out
    rw [dcD_none (by rw [← HRR.out])] at hDD
    have hT1 : dcT ls s n = [] := by rw [HDT.out, hDD]; rfl
    have hB1 : dcB ls s n = false := by rw [HDB.out, hDD]; rfl
    have HT1 := Lib.hid hT1
    have HB1 := Lib.hid hB1
    simp only [Option.isSome_none, Option.elim_none]
    clear hDD hT1 hB1 hD
    go_wp2
    go_ret2
    exact ⟨by rw [HT1.out, HB1.out]; rfl, HB4.out.trans (HK5.out.below (B := w.heap.size) (by rw [HZ4.out] at *; omega) (fun k hk e => by have h1 : k = gr := e; omega))⟩
   | some p =>
    have hDD := hD.out
    rw [dcD_some (by rw [← HRR.out]), ← HRR.out] at hDD
    simp only at hDD
    have hx := byL_getD ls p
    obtain ⟨x, hxx⟩ : ∃ x, x = (byL ls).getD p 0 := ⟨_, rfl⟩
    rw [← hxx] at hDD hx
    simp only [Option.isSome_some, Option.elim_some]
    rw [← hxx]
    obtain ⟨b, hb⟩ : ∃ b, b = UInt8.ofNat x := ⟨_, rfl⟩
    have hbx : (b.toNat : Int) = (x : Int) := by rw [hb, UInt8.toNat_ofNat']; omega
    rw [← hb] at hDD
    rw [← hbx]
    have HDD := Lib.hid hDD
    clear hDD hxx hb hbx hx hD
    go_wp2_with (at_builtin; refine append_one _ (.int .u8 (b.toNat : Int)) rfl (.tmp 30) (.tmp 32) 43 rfl w4.heap.size 5 _ _ Tryz.underlying43 Tryz.infoU8 rfl rfl _ _ _ rfl HO5.out rfl (by unfold maxLen; omega) (by omega) hw5 ?_)
    intro v' w6 ho6 hb6 hgr6
    have hk6 : Kept (oneRow gr) w4 w6 := ⟨hb6.os.trans HK5.out.os, hb6.tape.trans HK5.out.tape, hb6.output.trans HK5.out.output, Nat.le_trans HK5.out.size hb6.size, fun k hk hn => (hb6.block k hk).trans (HK5.out.at_ k hk hn)⟩
    have hr6 := HR5.out.kept (kept_grown hgr6) (fun e => by
     have h2 := (HO5.out.lt gr e).1
     have h3 := HR4.out.lt
     omega)
    have hce : cellsB acc ++ [Value.int .u8 (b.toNat : Int)] = cellsB (acc ++ [b]) := by simp [cellsB]
    rw [hce] at ho6
    have hal : (acc ++ [b]).length = N + 1 := by rw [List.length_append, ← HNN.out]; rfl
    rw [← hal] at ho6
    have hlv : lenOfV v' = N + 1 := by
     obtain ⟨A5, cp5, hv5, _⟩ := (SeqS.of_owns ho6).form
     rw [hv5, hal]; rfl
    have HAL := Lib.hid hal
    have HO6 := Lib.hid ho6
    have HR6 := Lib.hid hr6
    have HK6 := Lib.hid hk6
    clear ho6 hb6 hgr6 hk6 hr6 hce hal
    go_wp2
    go_roundw
    case rel =>
     refine ⟨m, _, acc ++ [b], by rw [HAL.out]; omega, HO6.out, ?_, HR6.out, HK6.out⟩
     show _ = _
     rw [HDD.out, List.append_assoc]
     rfl
    case measure => simp only [lenOfV] at hlv ⊢; omega
def pkB (cds lens : List Nat) (bs : List UInt8) : List Bool := bs.flatMap fun b => putL (cds.getD b.toNat 0) (lens.getD b.toNat 0)
theorem pkB_take {cds lens : List Nat} {bs : List UInt8} {i : Nat} {b : UInt8} (h : bs[i]? = some b) : pkB cds lens (bs.take (i + 1)) = pkB cds lens (bs.take i) ++ putL (cds.getD b.toNat 0) (lens.getD b.toNat 0) := by
 unfold pkB; rw [List.take_add_one, h]; simp
theorem pkB_le (cds lens : List Nat) : ∀ bs : List UInt8, (pkB cds lens bs).length ≤ 64 * bs.length
 | [] => by simp [pkB]
 | b :: bs => by
  have := pkB_le cds lens bs
  have := putL_le (cds.getD b.toNat 0) (lens.getD b.toNat 0)
  unfold pkB at *
  rw [List.flatMap_cons, List.length_append, List.length_cons]; omega
theorem printR_le (l : List Nat) : (printR l).length ≤ 10 + 20 * l.length := by
 unfold printR
 have h1 := (enc_length (packs l).length).2
 have h2 := bodyR_length (packs l)
 have h3 := (packs_in l).1
 rw [List.length_append]; omega
def lnT (bs : List UInt8) : List Nat := lensW (cntL bs)
def cdT (bs : List UInt8) : List Nat := cdsOf (lnT bs)
def pkT (bs : List UInt8) : List UInt8 := enc bs.length ++ (printR (lnT bs) ++ packB (pkB (cdT bs) (lnT bs) bs))
theorem cdsOf_length (ls : List Nat) : (cdsOf ls).length = 256 := by
 unfold cdsOf; split
 ·exact codL_length _
 ·exact List.length_replicate
theorem cdsOf_lt (ls : List Nat) : ∀ x ∈ cdsOf ls, x < 18446744073709551616 := by
 unfold cdsOf
 split
 ·intro x hx
  unfold codL at hx
  obtain ⟨i, _, rfl⟩ := List.mem_map.1 hx
  split
  ·exact Nat.mod_lt _ (by decide)
  ·decide
 ·intro x hx; rw [List.eq_of_mem_replicate hx]; decide
theorem bw_ne_arr {w : World} {B g k : Nat} {t : TypeId} {l : List Bool} {cs : Array Value} (h : BwAt w B g l) (hl : Lies w k t cs) (h1 : t ≠ 85) (h2 : t ≠ 5) : ¬ bwRows w B g k := by
 rintro (rfl | ⟨_, cur, hc⟩)
 ·obtain ⟨v, hv, _⟩ := h
  exact h1 (hl.same hv).1
 ·exact h2 (hl.same hc).1
theorem bw_below {w w' : World} {B g : Nat} (hk : Kept (bwRows w B g) w w') (hB : B ≤ w.heap.size) (hg : B ≤ g) : Below B w w' :=
 hk.below hB (fun k hlt h => by rcases h with h | ⟨h, _⟩ <;> omega)
theorem bwFresh (w : World) (B : Nat) : BwAt (w.alloc (.cells #[.slice none 0 0, .int .i64 0] 85)) B w.heap.size [] :=
 ⟨_, Lies.made _ _ _, World.ownsRow_nil _ _ _ _⟩
theorem zeroBw : ∀ w : World, (zeroValue 85).run Tryz.prog w = .ok (.agg #[.slice none 0 0, .int .i64 0]) w := fun w => by kernel_rfl
set_option maxHeartbeats 2000000 in
set_option maxRecDepth 100000 in
theorem huffPack (s : ByteArray) (w : World) (hs : s.size ≤ 4294967296) :
  Calls Tryz.prog 22 #[.string s] w fun e w' => e = .returned (.string (textB (pkT s.data.toList))) ∧ Below w.heap.size w w' := by
 have hsl : s.data.toList.length = s.size := by simp
 have hcnt := fun w => huffCount s w (by omega)
 have hwok : WOk (cntL s.data.toList) := ⟨cntL_length _, fun n hn => by have := cntL_le _ n hn; omega⟩
 have hlen := fun w => huffLengths (cntL s.data.toList) w hwok
 have hll : (lnT s.data.toList).length = 256 := lensW_length _ (cntL_length _)
 have hl256 : ∀ x ∈ lnT s.data.toList, x < 256 := lensW_lt _
 have hcds := fun w => huffCodes (lnT s.data.toList) w hll hl256
 have hwid := fun w => huffWiden (lnT s.data.toList) w hll hl256
 have hcl : (cdT s.data.toList).length = 256 := cdsOf_length _
 have hclt : ∀ x ∈ cdT s.data.toList, x < 18446744073709551616 := cdsOf_lt _
 change ∀ w, Calls Tryz.prog _ #[.agg (cells64 (cntL s.data.toList)).toArray] w fun e w' => e = .returned (.agg (c8 (lnT s.data.toList)).toArray) ∧ Below w.heap.size w w' at hlen
 change ∀ w, Calls Tryz.prog _ #[.agg (c8 (lnT s.data.toList)).toArray] w fun e w' => e = .returned (.tuple #[.agg (cells64 (cdT s.data.toList)).toArray, .int .i64 (cdsE (lnT s.data.toList) : Nat)]) ∧ Below w.heap.size w w' at hcds
 have HPK : Hid (pkT s.data.toList = enc s.data.toList.length ++ (printR (lnT s.data.toList) ++ packB (pkB (cdT s.data.toList) (lnT s.data.toList) s.data.toList))) := rfl
 obtain ⟨ls, hls⟩ : ∃ ls, ls = lnT s.data.toList := ⟨_, rfl⟩
 obtain ⟨cd, hcd⟩ : ∃ cd, cd = cdT s.data.toList := ⟨_, rfl⟩
 rw [← hls] at hlen hll hl256 hcds hwid HPK
 rw [← hcd] at hcds hcl hclt HPK
 clear hls hcd
 obtain ⟨L, hL⟩ : ∃ L, L = c8 ls := ⟨_, rfl⟩
 obtain ⟨D, hD⟩ : ∃ D, D = cells64 cd := ⟨_, rfl⟩
 obtain ⟨N, hN⟩ : ∃ N, N = cells64 (cntL s.data.toList) := ⟨_, rfl⟩
 have hLl : L.length = 256 := by rw [hL, c8_length, hll]
 have hDl : D.length = 256 := by rw [hD, c64_length, hcl]
 have hL1 : L.toArray.all (·.oneCell') = true := by rw [hL]; exact c8_one _
 have hD1 : D.toArray.all (·.oneCell') = true := by rw [hD]; exact c64_one _
 rw [← hL] at hlen hcds hwid
 rw [← hD] at hcds
 rw [← hN] at hlen hcnt
 obtain ⟨z8, hz8⟩ : ∃ z : Array Value, z = Array.replicate 256 (.int .u8 0) := ⟨_, rfl⟩
 obtain ⟨z6, hz6⟩ : ∃ z : Array Value, z = Array.replicate 256 (.int .u64 0) := ⟨_, rfl⟩
 have hzz8 := zero8
 have hzz6 := zero64
 have hzbw := zeroBw
 rw [← hz8] at hzz8
 rw [← hz6] at hzz6
 have hn8 : z8.size = 256 := by rw [hz8, Array.size_replicate]
 have hn6 : z6.size = 256 := by rw [hz6, Array.size_replicate]
 have hiL : (Tryz.prog.info? 78).map (·.size) = some L.length := by rw [hLl]; exact info8
 have hiL2 : (Tryz.prog.info? 78).map (·.size) = some L.toArray.size := by rw [List.size_toArray, hLl]; exact info8
 have hiD2 : (Tryz.prog.info? 80).map (·.size) = some D.toArray.size := by rw [List.size_toArray, hDl]; exact info64
 have HIL := Lib.hid hiL
 have HIL2 := Lib.hid hiL2
 have HID2 := Lib.hid hiD2
 have HLEN := Lib.hid hlen
 have HCDS := Lib.hid hcds
 have HWID := Lib.hid hwid
 have HCNT := Lib.hid hcnt
 have HL := Lib.hid hL
 have HD := Lib.hid hD
 have HL1 := Lib.hid hL1
 have HD1 := Lib.hid hD1
 have HLL := Lib.hid hll
 have HCL := Lib.hid hcl
 have H256 := Lib.hid hl256
 have HCLT := Lib.hid hclt
 have HLl := Lib.hid hLl
 have HDl := Lib.hid hDl
 have HN8 := Lib.hid hn8
 have HN6 := Lib.hid hn6
 have HSL := Lib.hid hsl
 clear hlen hcds hwid hcnt hL hD hL1 hD1 hll hcl hl256 hclt hLl hDl hiL hiL2 hiD2 hz8 hz6 hn8 hn6 hwok hN hsl
 go_enter Tryz.func22, Tryz.ntmps22
 go_wp2_with fail
 refine (HCNT.out w).mono ?_
 rintro e w1 ⟨rfl, hb1⟩
 go_wp2_with fail
 refine (HLEN.out w1).mono ?_
 rintro e w2 ⟨rfl, hb2⟩
 have hb02 := hb1.trans (hb2.mono hb1.size)
 have hz2 : w.heap.size ≤ w2.heap.size := hb02.size
 have ht2 := arr_there (Lies.made w2 78 z8) (n := L.toArray.size) (HN8.out.trans (by rw [List.size_toArray, HLl.out]))
 have ls3 := arr_store (Lies.made w2 78 z8) (L := L) (HN8.out.trans HLl.out.symm)
 have hk3 := (Kept.alloc (oneRow w2.heap.size) w2 (.cells z8 78)).trans (kept_cellsH L 0 _ (g := w2.heap.size)) (fun _ _ h => h)
 have hb03 := hb02.trans (hk3.below (B := w.heap.size) hz2 (fun k hk e => by have h1 : k = w2.heap.size := e; omega))
 have hz3 := size_setCells w2.heap.size L 0 (w2.alloc (.cells z8 78))
 rw [show (w2.alloc (.cells z8 78)).heap.size = w2.heap.size + 1 by simp] at hz3
 have HT2 := Lib.hid ht2
 have LS3 := Lib.hid ls3
 have HR3 := Lib.hid (arr_range ls3)
 have HB3 := Lib.hid hb03
 have HZ3 := Lib.hid hz3
 clear hb1 hb2 hb02 ht2 ls3 hk3 hb03 hz3 HCNT HLEN
 go_wp2_with (first | refine wpList_store_mid rfl 78 _ _ rfl w2.heap.size 0 L.toArray rfl rfl HT2.out HIL2.out HL1.out ?_ | refine wpList_load_mid rfl 78 _ rfl w2.heap.size 0 rfl L _ HR3.out under8 rfl HIL.out ?_)
 obtain ⟨gL, hgL⟩ : ∃ gL, gL = w2.heap.size := ⟨_, rfl⟩
 generalize (w2.alloc (.cells z8 78)).setCells w2.heap.size 0 L = w3 at *
 rw [← hgL] at LS3 HR3 HZ3 hz2 ⊢
 clear hgL HT2
 refine (HCDS.out w3).mono ?_
 rintro e w4 ⟨rfl, hb4⟩
 have hz34 : gL + 1 ≤ w4.heap.size := by have := hb4.size; rw [HZ3.out] at this; exact this
 have LS4 := Lib.hid (LS3.out.below hb4 (by rw [HZ3.out]; omega))
 have HB4 := Lib.hid (HB3.out.trans (hb4.mono (by rw [HZ3.out]; omega)))
 have ht4 := arr_there (Lies.made w4 80 z6) (n := D.toArray.size) (HN6.out.trans (by rw [List.size_toArray, HDl.out]))
 have lc5 := arr_store (Lies.made w4 80 z6) (L := D) (HN6.out.trans HDl.out.symm)
 have hk5 := (Kept.alloc (oneRow w4.heap.size) w4 (.cells z6 80)).trans (kept_cellsH D 0 _ (g := w4.heap.size)) (fun _ _ h => h)
 have hb5 := HB4.out.trans (hk5.below (B := w.heap.size) (by omega) (fun k hk e => by have h1 : k = w4.heap.size := e; omega))
 have hz5 := size_setCells w4.heap.size D 0 (w4.alloc (.cells z6 80))
 rw [show (w4.alloc (.cells z6 80)).heap.size = w4.heap.size + 1 by simp] at hz5
 have LS5 := Lib.hid (LS4.out.kept hk5 (fun e => by have h1 : gL = w4.heap.size := e; omega))
 have HT4 := Lib.hid ht4
 have LC5 := Lib.hid lc5
 have HB5 := Lib.hid hb5
 clear hb4 ht4 lc5 hk5 hb5 LS3 HB3 HZ3 HR3 LS4 HB4
 go_wp2_with (refine wpList_store_mid rfl 80 _ _ rfl w4.heap.size 0 D.toArray rfl rfl HT4.out HID2.out HD1.out ?_)
 obtain ⟨gC, hgC⟩ : ∃ gC, gC = w4.heap.size := ⟨_, rfl⟩
 generalize (w4.alloc (.cells z6 80)).setCells w4.heap.size 0 D = w5 at *
 rw [← hgC] at LC5 hz5 hz34 ⊢
 clear hgC HT4
 have BW6 := bwFresh w5 w.heap.size
 have LS6 := Lib.hid (LS5.out.alloc (.cells #[.slice none 0 0, .int .i64 0] 85))
 have LC6 := Lib.hid (LC5.out.alloc (.cells #[.slice none 0 0, .int .i64 0] 85))
 have HB6 := Lib.hid (HB5.out.alloc (by omega) (.cells #[.slice none 0 0, .int .i64 0] 85))
 rw [hz5] at BW6
 obtain ⟨gB, hgB⟩ : ∃ gB, gB = gC + 1 := ⟨_, rfl⟩
 rw [← hgB] at BW6 ⊢
 have hgB1 : w.heap.size ≤ gB := by omega
 have HBW6 := Lib.hid BW6
 clear BW6 hz5 LS5 LC5 HB5 hgB hz34 hz2
 generalize w5.alloc (.cells #[.slice none 0 0, .int .i64 0] 85) = w6 at *
 go_loopw [19] (fun c wr => ∃ i : Nat, i ≤ s.size ∧ c = .int .i64 i ∧ BwAt wr w.heap.size gB (pkB cd ls (s.data.toList.take i)) ∧ Lies wr gL 78 L.toArray ∧ Lies wr gC 80 D.toArray ∧ Below w.heap.size w wr)
  (fun c _ => s.size - (intOf c).toNat)
 case atStart => exact ⟨0, by omega, rfl, HBW6.out, LS6.out, LC6.out, HB6.out⟩
 case round =>
  clear HBW6 LS6 LC6 HB6
  obtain ⟨i, hi, rfl, bw, l8, lc, hb⟩ := hrel
  have hbs := hb.size
  have BW := Lib.hid bw
  have LS := Lib.hid l8
  have LC := Lib.hid lc
  have HB := Lib.hid hb
  clear bw l8 lc hb
  by_cases hlt : i < s.size
  ·have hii : (i : Int) < (s.size : Int) := by omega
   have hby := byte_of s i hlt
   have htk := pkB_take (cds := cd) (lens := ls) hby
   have hple := pkB_le cd ls (s.data.toList.take i)
   rw [List.length_take, HSL.out, Nat.min_eq_left (by omega)] at hple
   have hblt := (s[i]'hlt).toNat_lt
   obtain ⟨bq, hbq⟩ : ∃ bq, bq = (s[i]'hlt).toNat := ⟨_, rfl⟩
   obtain ⟨n, hn⟩ : ∃ n, ls[bq]? = some n := ⟨_, List.getElem?_eq_getElem (by rw [HLL.out, hbq]; exact hblt)⟩
   obtain ⟨m, hm⟩ : ∃ m, cd[bq]? = some m := ⟨_, List.getElem?_eq_getElem (by rw [HCL.out, hbq]; exact hblt)⟩
   have hn256 := H256.out n (List.mem_of_getElem? hn)
   have hm64 := HCLT.out m (List.mem_of_getElem? hm)
   rw [← hbq, getD_of hn, getD_of hm] at htk
   have k1 : wr.cell? ⟨gL, bq, none⟩ = some (.int .u8 (n : Int)) := (LS.out.cell bq).trans (by rw [List.getElem?_toArray, HL.out]; exact c8_get hn)
   have k2 : wr.cell? ⟨gC, bq, none⟩ = some (.int .u64 (m : Int)) := (LC.out.cell bq).trans (by rw [List.getElem?_toArray, HD.out]; exact c64_get'' hm)
   rw [hbq] at k1 k2
   have hbi : ((s[i]'hlt).toNat : Int) < 256 := by omega
   have en : IntKind.i64.wrap (n : Int) = (n : Int) := by rw [IntKind.wrap_i64]; omega
   have HTK := Lib.hid htk
   clear hn hm htk hby hbq
   obtain ⟨pl, hpl⟩ : ∃ pl, pl = pkB cd ls (s.data.toList.take i) := ⟨_, rfl⟩
   rw [← hpl] at hple
   have HPL := Lib.hid hpl
   clear hpl
   go_wp2_with fail
   go_still_tail 11, (by kernel_rfl)
   clear k1 k2
   go_wp2_with fail
   refine (bitsPutAny w.heap.size gB m n pl wr.drew (show BwAt wr.drew w.heap.size gB pl by rw [HPL.out]; exact BW.out) hbs (by omega) hm64).mono ?_
   rintro e w8 ⟨⟨x, rfl⟩, bw8, hk8⟩
   have hbw := BW.out
   have l8 := (show Lies wr.drew gL 78 L.toArray from LS.out).kept hk8 (bw_ne_arr (w := wr.drew) (l := pkB cd ls (s.data.toList.take i)) BW.out (cs := L.toArray) (t := 78) LS.out (by decide) (by decide))
   have lc8 := (show Lies wr.drew gC 80 D.toArray from LC.out).kept hk8 (bw_ne_arr (w := wr.drew) (l := pkB cd ls (s.data.toList.take i)) BW.out (cs := D.toArray) (t := 80) LC.out (by decide) (by decide))
   have hb8 : Below w.heap.size w w8 := (show Below w.heap.size w wr.drew from below_drewN HB.out 1).trans (bw_below hk8 hbs hgB1)
   have BW8 := Lib.hid bw8
   have L8 := Lib.hid l8
   have LC8 := Lib.hid lc8
   have HB8 := Lib.hid hb8
   clear bw8 l8 lc8 hb8 hk8 hbw
   go_wp2
   go_roundw
   case rel => exact ⟨i + 1, by omega, by go_num, by rw [HTK.out, ← HPL.out]; exact BW8.out, L8.out, LC8.out, HB8.out⟩
   case measure => simp [intOf]; omega
  ·obtain rfl : i = s.size := by omega
   have BWF := BW.out
   rw [List.take_of_length_le (by rw [HSL.out]; exact Nat.le_refl _)] at BWF
   have hple := pkB_le cd ls s.data.toList
   rw [HSL.out] at hple
   obtain ⟨pl, hpl⟩ : ∃ pl, pl = pkB cd ls s.data.toList := ⟨_, rfl⟩
   rw [← hpl] at hple BWF HPK
   have HBW := Lib.hid BWF
   have hpb := packB_length pl
   have hen := (enc_length s.size).2
   have hW0 := WrAt.fresh wr wr.heap.size (Nat.le_refl _)
   have hb0 := (Below.refl wr.heap.size wr).alloc (Nat.le_refl _) (.cells #[.slice none 0 0] 45)
   have HW0 := Lib.hid hW0
   have HB0 := Lib.hid hb0
   have HE := Lib.hid hen
   have hzw : wr.heap.size < (wr.alloc (.cells #[.slice none 0 0] 45)).heap.size := by simp
   have eu : IntKind.u64.wrap (s.size : Int) = (s.size : Int) := by rw [IntKind.wrap_u64]; omega
   obtain ⟨gW, hgW⟩ : ∃ gW, gW = wr.heap.size := ⟨_, rfl⟩
   rw [← hgW] at HW0
   have hLlt := LS.out.lt
   have HGW := Lib.hid hgW
   clear hgW hpl hW0 hb0 hen BWF BW
   have hgWn : gW = wr.heap.size := HGW.out
   clear hgWn
   go_wp2_with fail
   rw [← HGW.out]
   generalize wr.alloc (.cells #[.slice none 0 0] 45) = w0 at *
   refine (varintPrint s.size w0 (by unfold M64; omega)).mono ?_
   rintro e wa ⟨rfl, hba⟩
   have HWa := Lib.hid (HW0.out.later hba)
   have HBa := Lib.hid (HB0.out.trans (hba.mono (Nat.le_of_lt hzw)))
   clear hba
   go_wp2_with fail
   refine (octetText gW gW ByteArray.empty (textB (enc s.size)) wa HWa.out (by rw [textB_size, show ByteArray.empty.size = 0 from rfl]; have := HE.out; omega)).mono ?_
   rintro e wb ⟨rfl, hwb, hkb⟩
   rw [show ByteArray.empty = textB [] from rfl, text_append, List.nil_append] at hwb
   have HWb := Lib.hid hwb
   have hzb : wr.heap.size ≤ wa.heap.size := HBa.out.size
   have HBb := Lib.hid (HBa.out.trans (hkb.below (B := wr.heap.size) hzb (fun k hk h => by have := h.1; have := HGW.out; omega)))
   have hzb2 : wr.heap.size ≤ wb.heap.size := HBb.out.size
   have HRb := Lib.hid (arr_range (LS.out.below HBb.out hLlt))
   clear hwb hkb
   go_wp2_with (refine wpList_load_mid rfl 78 _ rfl gL 0 rfl L _ HRb.out under8 rfl HIL.out ?_)
   refine (HWID.out wb).mono ?_
   rintro e wc ⟨vc, rfl, hoc, hbc⟩
   have HWc := Lib.hid (HWb.out.later hbc)
   have HBc := Lib.hid (HBb.out.trans (hbc.mono hzb2))
   have HSc := Lib.hid (SeqAt.of_owns hoc)
   have hzc : wr.heap.size ≤ wc.heap.size := HBc.out.size
   clear hoc hbc
   go_wp2_with fail
   refine (runsPrint vc ls wc HSc.out (by rw [HLL.out]; omega) (fun n hn => by have := H256.out n hn; unfold M64; omega)).mono ?_
   rintro e wd ⟨rfl, hbd⟩
   have HWd := Lib.hid (HWc.out.later hbd)
   have HBd := Lib.hid (HBc.out.trans (hbd.mono hzc))
   have hzd : wr.heap.size ≤ wd.heap.size := HBd.out.size
   clear hbd
   go_wp2_with fail
   refine (octetText gW gW _ (textB (printR ls)) wd HWd.out (by rw [textB_size, textB_size]; have := HE.out; have := printR_le ls; rw [HLL.out] at this; omega)).mono ?_
   rintro e we ⟨rfl, hwe, hke⟩
   rw [text_append] at hwe
   have HWe := Lib.hid hwe
   have HBe := Lib.hid (HBd.out.trans (hke.below (B := wr.heap.size) hzd (fun k hk h => by have := h.1; have := HGW.out; omega)))
   have hze : wr.heap.size ≤ we.heap.size := HBe.out.size
   have HBWe := Lib.hid (HBW.out.later HBe.out)
   clear hwe hke
   go_wp2_with fail
   refine (bitsString w.heap.size gB pl we HBWe.out).mono ?_
   rintro e wf ⟨rfl, rfl⟩
   go_wp2_with fail
   refine (octetText gW gW _ (textB (packB pl)) we HWe.out (by rw [textB_size, textB_size, List.length_append]; have := HE.out; have := printR_le ls; rw [HLL.out] at this; omega)).mono ?_
   rintro e wg ⟨rfl, hwg, hkg⟩
   rw [text_append, List.append_assoc] at hwg
   have HWg := Lib.hid hwg
   have HBg := Lib.hid (HBe.out.trans (hkg.below (B := wr.heap.size) hze (fun k hk h => by have := h.1; have := HGW.out; omega)))
   clear hwg hkg
   go_wp2_with fail
   refine (octetString gW gW _ wg HWg.out (by rw [textB_size, List.length_append, List.length_append]; unfold maxLen; have := HE.out; have := printR_le ls; rw [HLL.out] at this; omega)).mono ?_
   rintro e wh ⟨rfl, rfl⟩
   go_wp2
   go_ret
   exact ⟨by rw [HPK.out, HSL.out]; rfl, HB.out.trans (HBg.out.mono HB.out.size)⟩
def unA (s : ByteArray) : Nat := (rd (restOf s 0)).2.2
def unZ (s : ByteArray) : Nat := redAt s (unA s) 256
def unL (s : ByteArray) : List Nat := rlL s (unA s)
def unTx (s : ByteArray) : List UInt8 := dcT (unL s) (s.extract (unZ s) s.size) (rd (restOf s 0)).1
def unE (s : ByteArray) (most : Int) : Nat :=
 if most < 0 then 1 else if (rd (restOf s 0)).2.1 ≠ 0 then 3 else if most < ((rd (restOf s 0)).1 : Int) then 4 else if rlB s (unA s) = false then 3
 else if dcB (unL s) (s.extract (unZ s) s.size) (rd (restOf s 0)).1 = false then 3 else if textB (pkT (unTx s)) = s then 0 else 3
def unT (s : ByteArray) (most : Int) : List UInt8 := if unE s most = 0 then unTx s else []
set_option maxHeartbeats 2000000 in
set_option maxRecDepth 100000 in
theorem huffUnpack (s : ByteArray) (most : Int) (w : World) (hs : s.size ≤ 1099511627776) (hm : most ≤ 4294967296) (hm0 : -9223372036854775808 ≤ most) :
  Calls Tryz.prog 27 #[.string s, .int .i64 most] w fun e w' => e = .returned (.tuple #[.string (textB (unT s most)), .int .i64 (unE s most : Nat)]) ∧ Below w.heap.size w w' := by
 by_cases hneg : most < 0
 ·have hE : unE s most = 1 := by unfold unE; rw [if_pos hneg]
  have hT : unT s most = [] := by unfold unT; rw [hE]; rfl
  have e0 : decide (most < 0) = true := by simpa using hneg
  rw [hE, hT]
  clear hE hT hneg
  go_enter Tryz.func27, Tryz.ntmps27
  go_wp2
  go_ret2
  exact ⟨rfl, Below.refl _ _⟩
 obtain ⟨M, rfl⟩ : ∃ M : Nat, most = M := ⟨most.toNat, by omega⟩
 have e0 : decide ((M : Int) < 0) = false := by simp
 have hEE : unE s M = if (rd (restOf s 0)).2.1 ≠ 0 then 3 else if (M : Int) < ((rd (restOf s 0)).1 : Int) then 4 else if rlB s (unA s) = false then 3
  else if dcB (unL s) (s.extract (unZ s) s.size) (rd (restOf s 0)).1 = false then 3 else if textB (pkT (unTx s)) = s then 0 else 3 := by conv => lhs; unfold unE; rw [if_neg hneg]
 have hTT : unT s M = if unE s M = 0 then unTx s else [] := rfl
 have HA : Hid (unA s = (rd (restOf s 0)).2.2) := rfl
 have HZ : Hid (unZ s = redAt s (unA s) 256) := rfl
 have HL : Hid (unL s = rlL s (unA s)) := rfl
 have HTX : Hid (unTx s = dcT (unL s) (s.extract (unZ s) s.size) (rd (restOf s 0)).1) := rfl
 have HEE := Lib.hid hEE
 have HTT := Lib.hid hTT
 have hvr := fun w g h => varintRead g s 0 w h
 rw [Nat.zero_add, ← HA.out] at hvr
 have hrb := (rd_ok (restOf s 0))
 obtain ⟨n, hn⟩ : ∃ n, n = (rd (restOf s 0)).1 := ⟨_, rfl⟩
 obtain ⟨ev, hev⟩ : ∃ ev, ev = (rd (restOf s 0)).2.1 := ⟨_, rfl⟩
 rw [← hn, ← hev] at hvr
 rw [← hn] at HTX
 have hEE2 := HEE.out
 rw [← hn, ← hev] at hEE2
 have HE2 := Lib.hid hEE2
 have HVR := Lib.hid hvr
 clear hEE hTT hvr hEE2 HEE hneg hm0
 have hnl : n < 18446744073709551616 := by rw [hn]; exact Nat.lt_succ_of_le (rd_bound _)
 clear hn hev hrb
 go_enter Tryz.func27, Tryz.ntmps27
 go_wp2_with fail
 refine (octetNew s w (by unfold maxLen; omega)).mono ?_
 rintro e w1 ⟨rfl, hr1, hk1⟩
 have HR1 := Lib.hid hr1
 have HB1 := Lib.hid hk1.all
 have hgl := hr1.lt
 obtain ⟨g, hg⟩ : ∃ g, g = w.heap.size := ⟨_, rfl⟩
 have hB : w.heap.size ≤ g := by omega
 rw [← hg] at HR1 hgl ⊢
 clear hr1 hk1 hg
 go_wp2_with fail
 refine (HVR.out w1 g HR1.out).mono ?_
 rintro e w2 ⟨rfl, hr2, hk2⟩
 have HR2 := Lib.hid hr2
 have HB2 := Lib.hid (HB1.out.trans (hk2.below (B := w.heap.size) HB1.out.size (fun k hk e => by have h1 : k = g := e; omega)))
 have hz2 : w.heap.size ≤ w2.heap.size := HB2.out.size
 clear hr2 hk2 HR1 HB1 HVR
 by_cases hev0 : ev = 0
 ·subst hev0
  have hE3 := HE2.out
  rw [if_neg (fun h => h rfl)] at hE3
  have HE3 := Lib.hid hE3
  clear hE3 HE2
  have eM : IntKind.u64.wrap (M : Int) = (M : Int) := by rw [IntKind.wrap_u64]; omega
  by_cases hnM : M < n
  ·have x1 : decide ((M : Int) < (n : Int)) = true := by simp; omega
   have x2 : decide (M < n) = true := by simpa using hnM
   have hE : unE s M = 4 := by rw [HE3.out, if_pos (by omega)]
   have hT : unT s M = [] := by rw [HTT.out, hE]; rfl
   have HE := Lib.hid hE
   have HT := Lib.hid hT
   clear hE hT hnM HE3 HTT
   go_wp2
   go_ret2
   exact ⟨by rw [HE.out, HT.out]; rfl, HB2.out⟩
  ·have x1 : decide ((M : Int) < (n : Int)) = false := by simp; omega
   have x2 : decide (M < n) = false := by simpa using hnM
   have hE4 := HE3.out
   rw [if_neg (by omega)] at hE4
   have HE4 := Lib.hid hE4
   clear hE4 HE3
   go_wp2_with fail
   refine (huffReadLengths g s (unA s) w2 HR2.out hs).mono ?_
   rw [← HL.out, ← HZ.out]
   rintro e w3 ⟨rfl, hr3, hk3⟩
   have HR3 := Lib.hid hr3
   have HB3 := Lib.hid (HB2.out.trans (hk3.below (B := w.heap.size) hz2 (fun k hk e => by have h1 : k = g := e; omega)))
   have hz3 : w.heap.size ≤ w3.heap.size := HB3.out.size
   have hlok : LOk (unL s) := rlL_ok s (unA s)
   have HLOK := Lib.hid hlok
   obtain ⟨L, hL⟩ : ∃ L, L = c8 (unL s) := ⟨_, rfl⟩
   have hLl : L.length = 256 := by rw [hL, c8_length, hlok.1]
   have hL1 : L.toArray.all (·.oneCell') = true := by rw [hL]; exact c8_one _
   rw [← hL]
   have HLL := Lib.hid hL
   obtain ⟨z8, hz8⟩ : ∃ z : Array Value, z = Array.replicate 256 (.int .u8 0) := ⟨_, rfl⟩
   have hzz8 := zero8
   rw [← hz8] at hzz8
   have hn8 : z8.size = 256 := by rw [hz8, Array.size_replicate]
   have hiL : (Tryz.prog.info? 78).map (·.size) = some L.length := by rw [hLl]; exact info8
   have hiL2 : (Tryz.prog.info? 78).map (·.size) = some L.toArray.size := by rw [List.size_toArray, hLl]; exact info8
   have ht := arr_there (Lies.made w3 78 z8) (n := L.toArray.size) (hn8.trans (by rw [List.size_toArray, hLl]))
   have lk := arr_store (Lies.made w3 78 z8) (L := L) (hn8.trans hLl.symm)
   have hkc := (Kept.alloc (oneRow w3.heap.size) w3 (.cells z8 78)).trans (kept_cellsH L 0 _ (g := w3.heap.size)) (fun _ _ h => h)
   have hgw3 := hr3.lt
   have HR4 := Lib.hid (hr3.kept hkc (fun e => by have h1 : g = w3.heap.size := e; omega))
   have HB4 := Lib.hid (HB3.out.trans (hkc.below (B := w.heap.size) hz3 (fun k hk e => by have h1 : k = w3.heap.size := e; omega)))
   have HIL := Lib.hid hiL
   have HIL2 := Lib.hid hiL2
   have HL1 := Lib.hid hL1
   have HTH := Lib.hid ht
   have LK := Lib.hid lk
   clear hr3 hk3 hlok hL hLl hL1 hz8 hn8 hiL hiL2 ht lk hkc HR2 HB2 HR3 HB3
   by_cases hok : rlB s (unA s) = true
   ·rw [hok]
    have hE5 := HE4.out
    rw [hok, if_neg (by decide)] at hE5
    have HE5 := Lib.hid hE5
    clear hE5 HE4 hok
    go_wp2_with (refine wpList_store_mid rfl 78 _ _ rfl w3.heap.size 0 L.toArray rfl rfl HTH.out HIL2.out HL1.out ?_)
    obtain ⟨gL, hgL⟩ : ∃ gL, gL = w3.heap.size := ⟨_, rfl⟩
    generalize (w3.alloc (.cells z8 78)).setCells w3.heap.size 0 L = w4 at *
    rw [← hgL] at LK hgw3 ⊢
    clear hgL HTH hzz8
    have hzs := HR4.out.2.1
    have hLft := octetLeft g s (unZ s) w4 HR4.out
    obtain ⟨li, hli⟩ : ∃ li : Nat, li = s.size - unZ s := ⟨_, rfl⟩
    rw [show (s.size : Int) - (unZ s : Int) = (li : Int) by omega] at hLft
    have hTk := fun w h => octetTakeOk g s (unZ s) (li : Int) w h (by omega) (by omega)
    rw [show unZ s + (li : Int).toNat = s.size by omega] at hTk
    have HLF := Lib.hid hLft
    have HTK := Lib.hid hTk
    obtain ⟨body, hbody⟩ : ∃ body, body = s.extract (unZ s) s.size := ⟨_, rfl⟩
    rw [← hbody] at HTK HE5 HTX
    have hbs : body.size ≤ 1099511627776 := by rw [hbody, ByteArray.size_extract]; omega
    have hdc := fun w => huffDecode (unL s) body n w HLOK.out hbs (by omega)
    rw [← HLL.out] at hdc
    have hTXl := dcT_length (unL s) body n
    rw [← HTX.out] at hTXl hdc
    have hpk := fun w => huffPack (textB (unTx s)) w (by rw [textB_size]; omega)
    rw [show (textB (unTx s)).data.toList = unTx s by simp [textB]] at hpk
    have HPK := Lib.hid hpk
    have HDC := Lib.hid hdc
    clear hLft hTk hdc hbody hpk hTXl hli hzs
    go_wp2_with fail
    refine HLF.out.mono ?_
    rintro e w5 ⟨rfl, k5, rfl⟩
    go_wp2_with fail
    refine (HTK.out _ (HR4.out.kept (Kept.drewN noRow w4 k5) (fun h => h))).mono ?_
    rintro e w6 ⟨rfl, hr6, hk6⟩
    have HB6 := Lib.hid ((below_drewN HB4.out k5).trans (hk6.below (B := w.heap.size) HB4.out.size (fun k hk e => by have h1 : k = g := e; omega)))
    have l6 := (show Lies (w4.drewN k5) gL 78 L.toArray from LK.out).kept hk6 (fun e => by have h1 : gL = g := e; omega)
    have HRR := Lib.hid (arr_range l6)
    have hz6 : w.heap.size ≤ w6.heap.size := HB6.out.size
    clear hr6 hk6 l6 HLF HTK
    go_wp2_with (refine wpList_load_mid rfl 78 _ rfl gL 0 rfl L _ HRR.out under8 rfl HIL.out ?_)
    refine (HDC.out w6).mono ?_
    rintro e w7 ⟨rfl, hb7⟩
    have HB7 := Lib.hid (HB6.out.trans (hb7.mono hz6))
    have hz7 : w.heap.size ≤ w7.heap.size := HB7.out.size
    clear hb7
    by_cases hdb : dcB (unL s) body n = true
    ·rw [hdb]
     have hE6 := HE5.out
     rw [hdb, if_neg (by decide)] at hE6
     have HE6 := Lib.hid hE6
     clear hE6 HE5 hdb
     go_wp2_with fail
     refine (HPK.out w7).mono ?_
     rintro e w8 ⟨rfl, hb8⟩
     have HB8 := Lib.hid (HB7.out.trans (hb8.mono hz7))
     clear hb8
     by_cases heq : textB (pkT (unTx s)) = s
     ·have hE : unE s M = 0 := by rw [HE6.out, if_pos heq]
      have hT : unT s M = unTx s := by rw [HTT.out, hE]; rfl
      have HE := Lib.hid hE
      have HT := Lib.hid hT
      have HQ := Lib.hid heq
      have e9 : ((textB (pkT (unTx s))).toList == s.toList) = true := by rw [heq]; simp
      clear hE hT heq HE6 HTT
      generalize textB (pkT (unTx s)) = Q at *
      go_wp2
      go_ret2
      exact ⟨by rw [HE.out, HT.out]; rfl, HB8.out⟩
     ·have hE : unE s M = 3 := by rw [HE6.out, if_neg heq]
      have hT : unT s M = [] := by rw [HTT.out, hE]; rfl
      have HE := Lib.hid hE
      have HT := Lib.hid hT
      have e9 := text_ne heq
      clear hE hT heq HE6 HTT
      generalize textB (pkT (unTx s)) = Q at *
      go_wp2
      go_ret2
      exact ⟨by rw [HE.out, HT.out]; rfl, HB8.out⟩
    ·have hdb2 : dcB (unL s) body n = false := by simpa using hdb
     rw [hdb2]
     have hE : unE s M = 3 := by rw [HE5.out, if_pos hdb2]
     have hT : unT s M = [] := by rw [HTT.out, hE]; rfl
     have HE := Lib.hid hE
     have HT := Lib.hid hT
     clear hE hT hdb hdb2 HE5 HTT
     go_wp2
     go_ret2
     exact ⟨by rw [HE.out, HT.out]; rfl, HB7.out⟩
   ·have hok2 : rlB s (unA s) = false := by simpa using hok
    rw [hok2]
    have hE : unE s M = 3 := by rw [HE4.out, if_pos hok2]
    have hT : unT s M = [] := by rw [HTT.out, hE]; rfl
    have HE := Lib.hid hE
    have HT := Lib.hid hT
    clear hE hT hok hok2 HE4 HTT
    go_wp2_with (refine wpList_store_mid rfl 78 _ _ rfl w3.heap.size 0 L.toArray rfl rfl HTH.out HIL2.out HL1.out ?_)
    go_wp2
    go_ret2
    exact ⟨by rw [HE.out, HT.out]; rfl, HB4.out⟩
 ·have x1 : ((ev : Int) != 0) = true := by simp; omega
  have x2 : (ev != 0) = true := by simpa using hev0
  have hE : unE s M = 3 := by rw [HE2.out, if_pos hev0]
  have hT : unT s M = [] := by rw [HTT.out, hE]; rfl
  have HE := Lib.hid hE
  have HT := Lib.hid hT
  clear hE hT hev0 HE2 HTT
  go_wp2
  go_ret2
  exact ⟨by rw [HE.out, HT.out]; rfl, HB2.out⟩
def rdS (X : ByteArray) (most : Int) : Nat × List Ev := match evT X 0 most 8 with
 | none => (3, [])
 | some (l, pos) => if pos < X.size then (3, []) else if (chE l).2 = 0 then (0, l) else (3, [])
def rdC (s : ByteArray) (most : Int) : Nat × List Ev :=
 if most < 0 ∨ 65536 < most then (1, []) else if unE s 4194304 = 0 then rdS (textB (unT s 4194304)) most else (3, [])
set_option maxHeartbeats 4000000 in
set_option maxRecDepth 100000 in
theorem chunkRead (s : ByteArray) (most : Int) (w : World) (hs : s.size ≤ 1099511627776) (hm0 : -9223372036854775808 ≤ most) (hX : (textB (unT s 4194304)).size ≤ 1099511627776) :
  Calls Tryz.prog 12 #[.string s, .int .i64 most] w fun e w' => ∃ v, e = .returned (.tuple #[v, .int .i64 ((rdC s most).1 : Nat)]) ∧ w'.ownsRow w.heap.size 36 5 v (rdC s most).2.length (rowsOf evF (rdC s most).2) ∧ Below w.heap.size w w' := by
 have hb := Below.refl w.heap.size w
 have HB := Lib.hid hb
 clear hb
 by_cases h1 : most < 0
 ·have e1 : rdC s most = (1, []) := by unfold rdC; rw [if_pos (.inl h1)]
  rw [e1]
  have x1 : decide (most < 0) = true := by simpa using h1
  clear e1
  go_enter Tryz.func12, Tryz.ntmps12
  go_wp2_with fail
  go_ret2
  exact ⟨_, rfl, World.ownsRow_nil _ _ _ _, HB.out⟩
 have x1 : decide (most < 0) = false := by simpa using h1
 by_cases h2 : 65536 < most
 ·have e1 : rdC s most = (1, []) := by unfold rdC; rw [if_pos (.inr h2)]
  rw [e1]
  have x2 : decide ((65536 : Int) < most) = true := by simpa using h2
  clear e1
  go_enter Tryz.func12, Tryz.ntmps12
  go_wp2_with fail
  go_ret2
  exact ⟨_, rfl, World.ownsRow_nil _ _ _ _, HB.out⟩
 have x2 : decide ((65536 : Int) < most) = false := by simpa using h2
 have e1 : rdC s most = if unE s 4194304 = 0 then rdS (textB (unT s 4194304)) most else (3, []) := by unfold rdC; rw [if_neg (by omega)]
 have HUN := Lib.hid (huffUnpack s 4194304 w hs (by decide) (by decide))
 obtain ⟨R, hR⟩ : ∃ R, R = rdC s most := ⟨_, rfl⟩
 rw [← hR] at e1 ⊢
 clear hR
 obtain ⟨ue, hue⟩ : ∃ ue, ue = unE s 4194304 := ⟨_, rfl⟩
 obtain ⟨X, hXe⟩ : ∃ X, X = textB (unT s 4194304) := ⟨_, rfl⟩
 rw [← hue, ← hXe] at e1
 rw [← hXe] at hX
 rw [← hue, ← hXe] at HUN
 have HE1 := Lib.hid e1
 clear e1 hue hXe
 go_enter Tryz.func12, Tryz.ntmps12
 go_wp2_with fail
 refine HUN.out.mono ?_
 rintro e w1 ⟨rfl, hb1⟩
 have HB1 := Lib.hid hb1
 clear hb1 HUN HB
 by_cases hu : ue = 0
 ·subst hu
  have hR := HE1.out
  rw [if_pos rfl] at hR
  have HRD := Lib.hid hR
  clear hR HE1
  go_wp2_with fail
  refine (octetNew X w1 (by unfold maxLen; omega)).mono ?_
  rintro e w2 ⟨rfl, hr2, hk2⟩
  have HR2 := Lib.hid hr2
  have HB2 := Lib.hid (then_ HB1.out hk2.all)
  have hg1 : w.heap.size ≤ w1.heap.size := HB1.out.size
  have hg2 := hr2.1.lt
  obtain ⟨g, hg⟩ : ∃ g, g = w1.heap.size := ⟨_, rfl⟩
  rw [← hg] at HR2 hg1 hg2 ⊢
  clear hr2 hk2 hg HB1
  go_wp2_with fail
  refine (readEvents21 g 0 X most w2 HR2.out hX (by omega) hm0).mono ?_
  rintro e w3 ⟨v3, b3, pos, hr3, hk3, rfl, hp3⟩
  have HR3 := Lib.hid hr3
  have HB3 := Lib.hid (HB2.out.trans (hk3.below (B := w.heap.size) HB2.out.size (fun k hk (e : k = g) => by omega)))
  have hz2 := HB2.out.size
  have hz3 := HB3.out.size
  clear hr3 hk3 HR2 HB2
  rcases hp3 with ⟨l, hev, rfl, ho3⟩ | ⟨hno, rfl⟩
  ·have HEV := Lib.hid hev
   have HO3 := Lib.hid (owns_mono ho3 hz2)
   obtain ⟨A3, c3, rfl⟩ := own_sl21 ho3
   clear hev ho3
   have hle := HR3.out.2.1
   by_cases hleft : pos < X.size
   ·have HF : Hid (R = (3, [])) := by show R = _; rw [HRD.out]; unfold rdS; rw [HEV.out]; simp only; rw [if_pos hleft]
    have x3 : decide ((0 : Int) < (X.size : Int) - (pos : Int)) = true := by simp; omega
    go_wp2_with fail
    refine (octetLeft g X pos w3 HR3.out).mono ?_
    rintro e w4 ⟨rfl, nd, rfl⟩
    go_wp2_with fail
    go_ret2
    exact ⟨_, by rw [HF.out]; rfl, by rw [HF.out]; exact World.ownsRow_nil _ _ _ _, below_drewN HB3.out nd⟩
   ·have hpe : (X.size : Int) - (pos : Int) = 0 := by omega
    have HCK := Lib.hid (fun wx hx => check15 l A3 c3 wx hx)
    obtain ⟨ce, hce⟩ : ∃ ce, ce = (chE l).2 := ⟨_, rfl⟩
    obtain ⟨ci, hci⟩ : ∃ ci, ci = (chE l).1 := ⟨_, rfl⟩
    rw [← hce, ← hci] at HCK
    have hRv : R = if ce = 0 then (0, l) else (3, []) := by rw [HRD.out]; unfold rdS; rw [HEV.out]; simp only; rw [if_neg hleft, hce]
    have HRV := Lib.hid hRv
    clear hRv hce hci HRD HEV
    go_wp2_with fail
    refine (octetLeft g X pos w3 HR3.out).mono ?_
    rintro e w4 ⟨rfl, nd, rfl⟩
    rw [hpe]
    have HO4 := Lib.hid (owned_below HO3.out (below_drewN (Below.refl _ _) nd))
    have HB4 := Lib.hid (below_drewN HB3.out nd)
    generalize w3.drewN nd = w4 at *
    go_wp2_with fail
    refine (HCK.out w4 (SeqS.of_owns HO4.out)).mono ?_
    rintro e w5 ⟨rfl, hb5⟩
    have HB5 := Lib.hid (HB4.out.trans (hb5.mono HB4.out.size))
    have HO5 := Lib.hid (owned_below HO4.out hb5)
    clear hb5 HCK
    by_cases hc : ce = 0
    ·subst hc
     have hrv := HRV.out
     rw [if_pos rfl] at hrv
     have HRV2 := Lib.hid hrv
     clear hrv HRV
     go_wp2_with fail
     go_ret2
     exact ⟨_, by rw [HRV2.out]; rfl, by rw [HRV2.out]; exact HO5.out, HB5.out⟩
    ·have hrv := HRV.out
     rw [if_neg hc] at hrv
     have HRV2 := Lib.hid hrv
     have x4 : ((ce : Int) != 0) = true := by simp; omega
     clear hrv HRV
     go_wp2_with fail
     go_ret2
     exact ⟨_, by rw [HRV2.out]; rfl, by rw [HRV2.out]; exact World.ownsRow_nil _ _ _ _, HB5.out⟩
  ·have HF : Hid (R = (3, [])) := by show R = _; rw [HRD.out]; unfold rdS; rw [hno]
   go_wp2_with fail
   go_ret2
   exact ⟨_, by rw [HF.out]; rfl, by rw [HF.out]; exact World.ownsRow_nil _ _ _ _, HB3.out⟩
 ·have HF : Hid (R = (3, [])) := by show R = _; rw [HE1.out, if_neg hu]
  have x3 : ((ue : Int) != 0) = true := by simp; omega
  go_wp2_with fail
  go_ret2
  exact ⟨_, by rw [HF.out]; rfl, by rw [HF.out]; exact World.ownsRow_nil _ _ _ _, HB1.out⟩
def prV (l : List Ev) : List UInt8 := if (chE l).2 = 0 then pkT (strS l) else []
theorem strS_le (l : List Ev) (h : l.length ≤ 65536) : (strS l).length ≤ 40000000 := by
 have := strK_le l 8
 unfold strS
 omega
theorem chunkPrint (l : List Ev) (A : Option Addr) (c : Nat) (w : World) (h : EvsAt w A c l) (hok : ∀ x ∈ l, evOk x) :
  Calls Tryz.prog 8 #[.slice A l.length c] w fun e w' => e = .returned (.tuple #[.string (textB (prV l)), .int .i64 ((chE l).2 : Nat)]) ∧ Below w.heap.size w w' := by
 have HS := Lib.hid (chunkStreams l A c w h hok)
 by_cases hc0 : (chE l).2 = 0
 ·have hl := (chE_zero hc0).1
  have hsl := strS_le l hl
  have e1 : strV l = strS l := by unfold strV; rw [if_pos hc0]
  have e2 : prV l = pkT (strS l) := by unfold prV; rw [if_pos hc0]
  rw [e1, hc0] at HS
  rw [e2, hc0]
  obtain ⟨X, hX⟩ : ∃ X, X = textB (strS l) := ⟨_, rfl⟩
  have HP := Lib.hid (fun w => huffPack X w (by rw [hX, textB_size]; omega))
  have hXd : X.data.toList = strS l := by rw [hX]; rfl
  rw [hXd] at HP
  rw [← hX] at HS
  clear hc0 e1 e2 hX hXd h hok
  go_enter Tryz.func8, Tryz.ntmps8
  go_wp2_with fail
  refine HS.out.mono ?_
  rintro e w1 ⟨rfl, hb1⟩
  have HB1 := Lib.hid hb1
  clear hb1
  go_wp2_with fail
  refine (HP.out w1).mono ?_
  rintro e w2 ⟨rfl, hb2⟩
  have HB2 := Lib.hid (then_ HB1.out hb2)
  clear hb2
  go_wp2
  go_ret2
  exact ⟨rfl, HB2.out⟩
 ·have e2 : prV l = [] := by unfold prV; rw [if_neg hc0]
  have e1 : strV l = [] := by unfold strV; rw [if_neg hc0]
  rw [e1, show textB [] = ⟨#[]⟩ from rfl] at HS
  rw [e2]
  obtain ⟨ce, hce⟩ : ∃ ce, ce = (chE l).2 := ⟨_, rfl⟩
  rw [← hce] at HS hc0 ⊢
  have x1 : ((ce : Int) != 0) = true := by simp; omega
  clear hce e1 e2 h hok
  go_enter Tryz.func8, Tryz.ntmps8
  go_wp2_with fail
  refine HS.out.mono ?_
  rintro e w1 ⟨rfl, hb1⟩
  have HB1 := Lib.hid hb1
  clear hb1
  go_wp2_with fail
  go_ret2
  exact ⟨rfl, HB1.out⟩
def dpF (s : List N2) (num : Nat) : Nat → Nat :=
 match s with
 | a :: b :: r => fun x => if x = a.2 ∨ x = b.2 then dpF (insL (sumW a.1 b.1, num) r) (num + 1) num + 1 else dpF (insL (sumW a.1 b.1, num) r) (num + 1) x
 | _ => fun _ => 0
termination_by s.length
decreasing_by all_goals simp [insL_length]
theorem dpF_step (a b : N2) (r : List N2) (num : Nat) (x : Nat) : dpF (a :: b :: r) num x = if x = a.2 ∨ x = b.2 then dpF (insL (sumW a.1 b.1, num) r) (num + 1) num + 1 else dpF (insL (sumW a.1 b.1, num) r) (num + 1) x := by
 conv => lhs; unfold dpF
theorem dpF_end (s : List N2) (num x : Nat) (h : s.length ≤ 1) : dpF s num x = 0 := by
 unfold dpF
 match s, h with
 | [], _ => rfl
 | [a], _ => rfl
theorem dpF_le : ∀ (n : Nat) (s : List N2) (num x : Nat), s.length = n → dpF s num x ≤ n - 1
 | 0, s, num, x, h => by rw [dpF_end _ _ _ (by omega)]; omega
 | 1, s, num, x, h => by rw [dpF_end _ _ _ (by omega)]; omega
 | n + 2, s, num, x, h => by
  match s, h with
  | a :: b :: r, h =>
   have hl : (insL (sumW a.1 b.1, num) r).length = n + 1 := by rw [insL_length]; simp at h; omega
   rw [dpF_step]
   have h1 := dpF_le (n + 1) _ (num + 1) num hl
   have h2 := dpF_le (n + 1) _ (num + 1) x hl
   split <;> omega
def kr (M : Nat) (D : Nat → Nat) (s : List N2) : Nat := (s.map fun p => 2 ^ (M - D p.2)).sum
theorem kr_perm {M : Nat} {D : Nat → Nat} {s t : List N2} (h : s.Perm t) : kr M D s = kr M D t := (h.map _).sum_nat
theorem kr_cons (M : Nat) (D : Nat → Nat) (p : N2) (s : List N2) : kr M D (p :: s) = 2 ^ (M - D p.2) + kr M D s := by simp [kr]
theorem kr_congr {M : Nat} {D E : Nat → Nat} {s : List N2} (h : ∀ p ∈ s, D p.2 = E p.2) : kr M D s = kr M E s := by
 unfold kr
 congr 1
 exact List.map_congr_left fun p hp => by rw [h p hp]
def NumOk (s : List N2) (num : Nat) : Prop := (∀ p ∈ s, p.2 < num) ∧ (s.map (·.2)).Nodup
theorem numOk_step {a b : N2} {r : List N2} {num w : Nat} (h : NumOk (a :: b :: r) num) : NumOk (insL (w, num) r) (num + 1) := by
 obtain ⟨h1, h2⟩ := h
 refine ⟨fun p hp => ?_, ?_⟩
 ·rcases List.mem_cons.1 ((insL_perm _ _).mem_iff.1 hp) with rfl | hp
  ·show num < num + 1; omega
  ·have := h1 p (by simp [hp]); omega
 ·have hp := (insL_perm (w, num) r).map (·.2)
  rw [hp.nodup_iff]
  simp only [List.map_cons, List.nodup_cons] at h2 ⊢
  refine ⟨fun hm => ?_, h2.2.2⟩
  obtain ⟨q, hq, he⟩ := List.mem_map.1 hm
  have := h1 q (by simp [hq])
  omega
theorem kraft : ∀ (n : Nat) (s : List N2) (num M : Nat), s.length = n + 1 → NumOk s num → n ≤ M → kr M (dpF s num) s = 2 ^ M
 | 0, s, num, M, h, hn, hM => by
  match s, h with
  | [p], h => rw [kr_cons, dpF_end _ _ _ (by simp)]; simp [kr]
 | n + 1, s, num, M, h, hn, hM => by
  match s, h with
  | a :: b :: r, h =>
   have hl : (insL (sumW a.1 b.1, num) r).length = n + 1 := by rw [insL_length]; simp at h; omega
   have ih := kraft n _ (num + 1) M hl (numOk_step hn) (by omega)
   have hp := kr_perm (M := M) (D := dpF (insL (sumW a.1 b.1, num) r) (num + 1)) (insL_perm (sumW a.1 b.1, num) r)
   rw [hp, kr_cons] at ih
   have hd := dpF_le (n + 1) _ (num + 1) num hl
   have ha : dpF (a :: b :: r) num a.2 = dpF (insL (sumW a.1 b.1, num) r) (num + 1) num + 1 := by rw [dpF_step, if_pos (.inl rfl)]
   have hb : dpF (a :: b :: r) num b.2 = dpF (insL (sumW a.1 b.1, num) r) (num + 1) num + 1 := by rw [dpF_step, if_pos (.inr rfl)]
   have hr : kr M (dpF (a :: b :: r) num) r = kr M (dpF (insL (sumW a.1 b.1, num) r) (num + 1)) r := kr_congr fun p hp => by
    have h2 := hn.2
    simp only [List.map_cons, List.nodup_cons] at h2
    rw [dpF_step, if_neg]
    rintro (e | e)
    ·exact h2.1 (List.mem_cons_of_mem _ (List.mem_map.2 ⟨p, hp, e⟩))
    ·exact h2.2.1 (List.mem_map.2 ⟨p, hp, e⟩)
   rw [kr_cons, kr_cons, ha, hb, hr]
   simp only at ih
   generalize dpF (insL (sumW a.1 b.1, num) r) (num + 1) num = d at *
   have e : 2 ^ (M - d) = 2 ^ (M - (d + 1)) + 2 ^ (M - (d + 1)) := by
    rw [show M - d = M - (d + 1) + 1 by omega, Nat.pow_succ]; omega
   omega
theorem mrgP_keep : ∀ (n : Nat) (s : List N2) (ps : List Nat) (x : Nat), s.length = n → (∀ p ∈ s, p.2 < ps.length) → x < ps.length → (∀ p ∈ s, p.2 ≠ x) → (mrgP s ps).getD x 0 = ps.getD x 0
 | 0, s, ps, x, h, hn, hx, hl => by rw [mrgP_end _ _ (by omega)]
 | 1, s, ps, x, h, hn, hx, hl => by rw [mrgP_end _ _ (by omega)]
 | n + 2, s, ps, x, h, hn, hx, hl => by
  match s, h with
  | a :: b :: r, h =>
   rw [mrgP_step, mrgP_keep (n + 1) _ _ x (by rw [insL_length]; simp at h; omega) (fun p hp => ?_) (by rw [ps2_length]; omega) (fun p hp => ?_),
    getD_ps2 ps a b (hn a (by simp)) (hn b (by simp)) x hx, if_neg (hl b (by simp)), if_neg (hl a (by simp))]
   ·rw [ps2_length]
    rcases List.mem_cons.1 ((insL_perm _ _).mem_iff.1 hp) with rfl | hp
    ·show ps.length < ps.length + 1; omega
    ·have := hn p (by simp [hp]); omega
   ·rcases List.mem_cons.1 ((insL_perm _ _).mem_iff.1 hp) with rfl | hp
    ·show ps.length ≠ x; omega
    ·exact hl p (by simp [hp])
theorem dp_parent : ∀ (n : Nat) (s : List N2) (ps : List Nat), s.length = n → NumOk s ps.length → ∀ x,
  x + 1 < (mrgP s ps).length → (∀ p ∈ s, s.length = 1 → p.2 + 1 = ps.length) → (∃ p ∈ s, p.2 = x) ∨ ps.length ≤ x →
  dpF s ps.length x = dpF s ps.length ((mrgP s ps).getD x 0) + 1 ∧ ps.length ≤ (mrgP s ps).getD x 0
 | 0, s, ps, h, hn, x, hx, h1, hor => by
  have : s = [] := List.length_eq_zero_iff.1 h
  subst this
  rw [mrgP_end _ _ (by simp)] at hx
  rcases hor with ⟨p, hp, _⟩ | hor
  ·cases hp
  ·omega
 | 1, s, ps, h, hn, x, hx, h1, hor => by
  rw [mrgP_end _ _ (by omega)] at hx
  rcases hor with ⟨p, hp, e⟩ | hor
  ·have := h1 p hp h; omega
  ·omega
 | n + 2, s, ps, h, hn, x, hx, h1, hor => by
  match s, h with
  | a :: b :: r, h =>
   have hl : (insL (sumW a.1 b.1, ps.length) r).length = n + 1 := by rw [insL_length]; simp at h; omega
   have ha := hn.1 a (by simp)
   have hb := hn.1 b (by simp)
   have hnd := hn.2
   simp only [List.map_cons, List.nodup_cons] at hnd
   rw [mrgP_step] at hx ⊢
   have hns : NumOk (insL (sumW a.1 b.1, ps.length) r) (ps2 ps a b).length := by rw [ps2_length]; exact numOk_step hn
   by_cases hab : x = a.2 ∨ x = b.2
   ·have hxl : x < ps.length := by rcases hab with h | h <;> omega
    have hP : (mrgP (insL (sumW a.1 b.1, ps.length) r) (ps2 ps a b)).getD x 0 = ps.length := by
     rw [mrgP_keep (n + 1) _ _ x hl hns.1 (by rw [ps2_length]; omega) (fun p hp => ?_), getD_ps2 ps a b ha hb x hxl]
     ·rcases hab with h | h
      ·by_cases hb2 : b.2 = x
       ·rw [if_pos hb2]
       ·rw [if_neg hb2, if_pos h.symm]
      ·rw [if_pos h.symm]
     ·rcases List.mem_cons.1 ((insL_perm _ _).mem_iff.1 hp) with rfl | hp
      ·show ps.length ≠ x; omega
      ·intro e
       rcases hab with h | h
       ·exact hnd.1 (List.mem_cons_of_mem _ (List.mem_map.2 ⟨p, hp, by rw [e, h]⟩))
       ·exact hnd.2.1 (List.mem_map.2 ⟨p, hp, by rw [e, h]⟩)
    rw [hP, dpF_step, if_pos hab, dpF_step, if_neg (by omega)]
    exact ⟨rfl, Nat.le_refl _⟩
   ·have hor' : (∃ p ∈ insL (sumW a.1 b.1, ps.length) r, p.2 = x) ∨ (ps2 ps a b).length ≤ x := by
     rw [ps2_length]
     rcases hor with ⟨p, hp, e⟩ | hor
     ·rcases List.mem_cons.1 hp with rfl | hp
      ·exact absurd (.inl e.symm) hab
      ·rcases List.mem_cons.1 hp with rfl | hp
       ·exact absurd (.inr e.symm) hab
       ·exact .inl ⟨p, (insL_perm _ _).mem_iff.2 (List.mem_cons_of_mem _ hp), e⟩
     ·by_cases hxe : x = ps.length
      ·exact .inl ⟨(sumW a.1 b.1, ps.length), (insL_perm _ _).mem_iff.2 (by simp), hxe.symm⟩
      ·exact .inr (by omega)
    have ih := dp_parent (n + 1) _ (ps2 ps a b) hl hns x hx (fun p hp e => by
     rw [ps2_length]
     have hr : r = [] := by
      rw [insL_length] at e
      exact List.length_eq_zero_iff.1 (by omega)
     subst hr
     simp [insL] at hp
     rw [hp]) hor'
    rw [ps2_length] at ih
    refine ⟨?_, by omega⟩
    rw [dpF_step, if_neg hab, dpF_step, if_neg (by omega)]
    exact ih.1
theorem dpF_root : ∀ (n : Nat) (s : List N2) (num x : Nat), s.length = n + 1 → (∀ p ∈ s, p.2 < num) → (0 < n → x = num + n - 1) → dpF s num x = 0
 | 0, s, num, x, h, _, _ => dpF_end _ _ _ (by omega)
 | n + 1, s, num, x, h, hn, hx => by
  match s, h with
  | a :: b :: r, h =>
   have hx' := hx (by omega)
   have ha := hn a (by simp)
   have hb := hn b (by simp)
   rw [dpF_step, if_neg (by omega)]
   exact dpF_root n _ (num + 1) x (by rw [insL_length]; simp at h; omega) (fun p hp => by
    rcases List.mem_cons.1 ((insL_perm _ _).mem_iff.1 hp) with rfl | hp
    ·show num < num + 1; omega
    ·have := hn p (by simp [hp]); omega) (fun _ => by omega)
section
variable (ws : List Nat)
theorem srt_num : NumOk (sortL (lvs ws)) (List.replicate (lvs ws).length 0).length := by
 rw [List.length_replicate]
 refine ⟨fun p hp => lvs_lt ws p ((sortL_perm _).mem_iff.1 hp), ?_⟩
 have hm : (lvs ws).map (·.2) = List.range (lvs ws).length := by
  apply List.ext_getElem?
  intro i
  rw [List.getElem?_map]
  by_cases hi : i < (lvs ws).length
  ·have hg := List.getElem?_eq_getElem hi
   rw [hg, List.getElem?_range hi]
   simp [(lvs_num _ ws rfl i _ hg).1]
  ·rw [List.getElem?_eq_none (by omega), List.getElem?_eq_none (by simp; omega)]; rfl
 rw [((sortL_perm (lvs ws)).map (·.2)).nodup_iff, hm]
 exact List.nodup_range
def dpW (x : Nat) : Nat := dpF (sortL (lvs ws)) (lvs ws).length x
theorem dpW_le (x : Nat) : dpW ws x ≤ (lvs ws).length - 1 := dpF_le _ _ _ _ (sortL_length _)
theorem dpW_parent (x : Nat) (hx : x + 1 < (parW ws).length) : dpW ws x = dpW ws ((parW ws).getD x 0) + 1 := by
 have h := dp_parent (lvs ws).length (sortL (lvs ws)) (List.replicate (lvs ws).length 0) (sortL_length _) (srt_num ws) x hx (fun p hp e => by
  rw [List.length_replicate]
  rw [sortL_length] at e
  have := lvs_lt ws p ((sortL_perm _).mem_iff.1 hp)
  omega) (by
  rw [List.length_replicate]
  by_cases hxn : x < (lvs ws).length
  ·have hg := List.getElem?_eq_getElem hxn
   exact .inl ⟨_, (sortL_perm _).mem_iff.2 (List.getElem_mem hxn), (lvs_num _ ws rfl x _ hg).1⟩
  ·exact .inr (by omega))
 rw [List.length_replicate] at h
 exact h.1
theorem depN_is (hn : 2 ≤ (lvs ws).length) (hn256 : (lvs ws).length ≤ 256) : ∀ t, t + 1 ≤ (parW ws).length → ∀ i, (parW ws).length - 1 - t ≤ i → i < (parW ws).length → (depN (parW ws) t).getD i 0 = dpW ws i
 | 0, ht, i, h1, h2 => by
  have hz : (depN (parW ws) 0).getD i 0 = 0 := by
   rw [depN, List.getD_eq_getElem?_getD, List.getElem?_replicate, if_pos h2]; rfl
  rw [hz]
  have hpl := parW_length ws
  exact (dpF_root ((lvs ws).length - 1) _ _ i (by rw [sortL_length]; omega) (fun p hp => lvs_lt ws p ((sortL_perm _).mem_iff.1 hp)) (fun _ => by omega)).symm
 | t + 1, ht, i, h1, h2 => by
  have hl := depN_length (parW ws) t
  rw [depN, getD_set _ _ _ _ (by omega)]
  by_cases hi : (parW ws).length - 2 - t = i
  ·rw [if_pos hi, hi]
   have ho := parW_on ws i (by omega)
   rw [depN_is hn hn256 t (by omega) _ (by omega) ho.2, ← dpW_parent ws i (by omega)]
   have := dpW_le ws i
   exact Nat.mod_eq_of_lt (by omega)
  ·rw [if_neg hi]
   exact depN_is hn hn256 t (by omega) i (by omega) h2
theorem lvs_le (hw : ws.length = 256) : (lvs ws).length ≤ 256 := by
 have h2 := lvs_length ws 256
 rwa [List.take_of_length_le (by rw [hw]; exact Nat.le_refl _)] at h2
theorem depW_is (hw : ws.length = 256) (hn : 2 ≤ (lvs ws).length) (i : Nat) (hi : i < (parW ws).length) : (depW ws).getD i 0 = dpW ws i := by
 unfold depW depA
 rw [if_neg (by omega)]
 have hpl := parW_length ws
 exact depN_is ws hn (lvs_le ws hw) _ (by omega) i (by omega) hi
theorem depW_one (hn : (lvs ws).length = 1) : (depW ws).getD 0 0 = 1 := by
 have hpl := parW_length ws
 unfold depW depA
 rw [if_pos hn, getD_set _ _ _ _ (by rw [depN_length]; omega), if_pos rfl]
theorem depW_pos (hw : ws.length = 256) (i : Nat) (hi : i < (lvs ws).length) : 1 ≤ (depW ws).getD i 0 := by
 have hpl := parW_length ws
 by_cases h1 : (lvs ws).length = 1
 ·obtain rfl : i = 0 := by omega
  rw [depW_one ws h1]; exact Nat.le_refl _
 ·rw [depW_is ws hw (by omega) i (by omega), dpW_parent ws i (by omega)]; omega
end
theorem lenP_get (ds : List Nat) : ∀ (ws : List Nat) (k i n : Nat), i < k → ws[i]? = some n → (lenP ds (ws.take k)).1.getD i 0 = if 0 < n then ds.getD (lvs (ws.take i)).length 0 else 0
 | ws, 0, i, n, h, _ => by omega
 | ws, k + 1, i, n, h, hn => by
  rcases hk : ws[k]? with _ | m
  ·have hlen : ws.length ≤ k := List.getElem?_eq_none_iff.1 hk
   have hil := (List.getElem?_eq_some_iff.1 hn).1
   have e : ws.take (k + 1) = ws.take k := by rw [List.take_of_length_le (by omega), List.take_of_length_le hlen]
   rw [e]
   exact lenP_get ds ws k i n (by omega) hn
  ·have hkl := (List.getElem?_eq_some_iff.1 hk).1
   have hl1 := lenP_length ds k (ws.take k) (by rw [List.length_take]; omega)
   have hls := lenP_snd ds _ (ws.take k) rfl
   rw [lenP_take hk]
   by_cases hik : i = k
   ·subst hik
    rw [hk] at hn
    have := Option.some.inj hn
    subst this
    unfold lenF
    by_cases h0 : 0 < m
    ·rw [if_pos h0, if_pos h0, hls, List.getD_eq_getElem?_getD, List.getElem?_append_right (by omega), hl1, Nat.sub_self]; rfl
    ·rw [if_neg h0, if_neg h0, List.getD_eq_getElem?_getD, List.getElem?_append_right (by omega), hl1, Nat.sub_self]; rfl
   ·have ih := lenP_get ds ws k i n (by omega) hn
    unfold lenF
    split
    ·rw [getD_append _ _ _ (by omega)]; exact ih
    ·rw [getD_append _ _ _ (by omega)]; exact ih
theorem lensW_get {ws : List Nat} (hw : ws.length = 256) {i n : Nat} (hn : ws[i]? = some n) : (lensW ws).getD i 0 = if 0 < n then (depW ws).getD (lvs (ws.take i)).length 0 else 0 := by
 have hi := (List.getElem?_eq_some_iff.1 hn).1
 have := lenP_get (depW ws) ws 256 i n (by omega) hn
 rwa [List.take_of_length_le (by omega)] at this
theorem lvs_at {ws : List Nat} {i n : Nat} (hn : ws[i]? = some n) (h0 : 0 < n) : (lvs (ws.take i)).length < (lvs ws).length := by
 have h1 := lvs_take hn
 have hi := (List.getElem?_eq_some_iff.1 hn).1
 have h2 := lvs_mono' ws (ws.length - (i + 1)) (i + 1)
 rw [show i + 1 + (ws.length - (i + 1)) = ws.length by omega, List.take_of_length_le (Nat.le_refl _), h1] at h2
 unfold lvF at h2
 rw [if_pos h0, List.length_append, List.length_singleton] at h2
 omega
theorem lensW_zero {ws : List Nat} (hw : ws.length = 256) {i n : Nat} (hn : ws[i]? = some n) : (lensW ws).getD i 0 = 0 ↔ n = 0 := by
 rw [lensW_get hw hn]
 by_cases h0 : 0 < n
 ·rw [if_pos h0]
  have := depW_pos ws hw _ (lvs_at hn h0)
  omega
 ·rw [if_neg h0]; omega
def gS (d : Nat) : Nat := if d = 0 then 0 else 2 ^ (56 - d)
theorem shr_sum (ls : List Nat) : ∀ b, shr ls b = ((ls.take b).map gS).sum
 | 0 => by simp [shr]
 | b + 1 => by
  rcases h : ls[b]? with _ | n
  ·have e : ls.take (b + 1) = ls.take b := by rw [List.take_add_one, h]; simp
   have := shr_sum ls b
   unfold shr at *
   rw [e]; exact this
  ·rw [shr_step h, shr_sum ls b, List.take_add_one, h]
   unfold shF gS
   simp only [Option.toList_some, List.map_append, List.sum_append, List.map_cons, List.map_nil, List.sum_cons, List.sum_nil]
   split <;> omega
theorem lenP_sum (ds : List Nat) (n : Nat) : ∀ ws : List Nat, ws.length = n → (((lenP ds ws).1).map gS).sum = ((lvs ws).map fun p => gS (ds.getD p.2 0)).sum := by
 induction n with
 | zero => intro ws h; rw [List.length_eq_zero_iff.1 h]; rfl
 | succ n ih =>
  intro ws h
  obtain ⟨ws', b, rfl⟩ : ∃ l b, ws = l ++ [b] := ⟨ws.dropLast, ws.getLast (by intro e; rw [e] at h; simp at h), (List.dropLast_concat_getLast _).symm⟩
  have h' : ws'.length = n := by simpa using h
  have i1 := ih ws' h'
  have i2 := lenP_snd ds _ ws' rfl
  rw [lvs_snoc]
  have e : lenP ds (ws' ++ [b]) = lenF ds (lenP ds ws') b := by unfold lenP; rw [List.foldl_append]; rfl
  rw [e]
  unfold lenF lvF
  by_cases h0 : 0 < b
  ·rw [if_pos h0, if_pos h0, List.map_append, List.sum_append, List.map_append, List.sum_append, i1, i2]; simp
  ·rw [if_neg h0, if_neg h0, List.map_append, List.sum_append, i1]; simp [gS]
theorem sum_scale : ∀ (l : List N2) (f g : N2 → Nat) (c : Nat), (∀ p ∈ l, f p = c * g p) → (l.map f).sum = c * (l.map g).sum
 | [], f, g, c, _ => by simp
 | p :: l, f, g, c, h => by
  rw [List.map_cons, List.sum_cons, List.map_cons, List.sum_cons, sum_scale l f g c (fun q hq => h q (List.mem_cons_of_mem _ hq)), h p (by simp), Nat.mul_add]
theorem lvs_byte' (m : Nat) : ∀ ws : List Nat, ws.length = m → ∀ i, i < (lvs ws).length → ∃ j n, ws[j]? = some n ∧ 0 < n ∧ (lvs (ws.take j)).length = i := by
 induction m with
 | zero => intro ws h i hi; rw [List.length_eq_zero_iff.1 h] at hi; simp [lvs] at hi
 | succ m ih =>
  intro ws h i hi
  obtain ⟨ws', b, rfl⟩ : ∃ l b, ws = l ++ [b] := ⟨ws.dropLast, ws.getLast (by intro e; rw [e] at h; simp at h), (List.dropLast_concat_getLast _).symm⟩
  have h' : ws'.length = m := by simpa using h
  by_cases hlt : i < (lvs ws').length
  ·obtain ⟨j, n, h1, h2, h3⟩ := ih ws' h' i hlt
   have hj := (List.getElem?_eq_some_iff.1 h1).1
   exact ⟨j, n, by rw [List.getElem?_append_left hj]; exact h1, h2, by rw [List.take_append_of_le_length (by omega)]; exact h3⟩
  ·rw [lvs_snoc] at hi
   unfold lvF at hi
   by_cases h0 : 0 < b
   ·rw [if_pos h0, List.length_append, List.length_singleton] at hi
    exact ⟨ws'.length, b, by rw [List.getElem?_append_right (Nat.le_refl _), Nat.sub_self]; rfl, h0, by rw [List.take_append_of_le_length (Nat.le_refl _), List.take_of_length_le (Nat.le_refl _)]; omega⟩
   ·rw [if_neg h0] at hi; omega
theorem lvs_byte (ws : List Nat) (i : Nat) (hi : i < (lvs ws).length) : ∃ j n, ws[j]? = some n ∧ 0 < n ∧ (lvs (ws.take j)).length = i := lvs_byte' _ ws rfl i hi
theorem lenP_count0 (ds : List Nat) (m : Nat) : ∀ ws : List Nat, ws.length = m → (∀ i, i < (lvs ws).length → 1 ≤ ds.getD i 0) → (lenP ds ws).1.count 0 + (lvs ws).length = m := by
 induction m with
 | zero => intro ws h _; rw [List.length_eq_zero_iff.1 h]; rfl
 | succ m ih =>
  intro ws h hd
  obtain ⟨ws', b, rfl⟩ : ∃ l b, ws = l ++ [b] := ⟨ws.dropLast, ws.getLast (by intro e; rw [e] at h; simp at h), (List.dropLast_concat_getLast _).symm⟩
  have h' : ws'.length = m := by simpa using h
  have i2 := lenP_snd ds _ ws' rfl
  have e : lenP ds (ws' ++ [b]) = lenF ds (lenP ds ws') b := by unfold lenP; rw [List.foldl_append]; rfl
  rw [lvs_snoc] at hd
  rw [e, lvs_snoc]
  unfold lenF lvF at *
  by_cases h0 : 0 < b
  ·rw [if_pos h0] at hd ⊢
   have i1 := ih ws' h' (fun i hi => hd i (by rw [List.length_append]; omega))
   have hb := hd (lvs ws').length (by rw [List.length_append, List.length_singleton]; omega)
   rw [if_pos h0, List.count_append, i2, List.length_append, List.length_singleton]
   have : [ds.getD (lvs ws').length 0].count 0 = 0 := List.count_eq_zero.2 (fun hm => by rw [List.mem_singleton] at hm; omega)
   omega
  ·rw [if_neg h0] at hd ⊢
   have i1 := ih ws' h' hd
   rw [if_neg h0, List.count_append]
   have : [0].count 0 = 1 := by decide
   omega
theorem lenP_count1 (ds : List Nat) (m : Nat) : ∀ ws : List Nat, ws.length = m → (∀ i, i < (lvs ws).length → ds.getD i 0 = 1) → (lenP ds ws).1.count 1 = (lvs ws).length := by
 induction m with
 | zero => intro ws h _; rw [List.length_eq_zero_iff.1 h]; rfl
 | succ m ih =>
  intro ws h hd
  obtain ⟨ws', b, rfl⟩ : ∃ l b, ws = l ++ [b] := ⟨ws.dropLast, ws.getLast (by intro e; rw [e] at h; simp at h), (List.dropLast_concat_getLast _).symm⟩
  have h' : ws'.length = m := by simpa using h
  have i2 := lenP_snd ds _ ws' rfl
  have e : lenP ds (ws' ++ [b]) = lenF ds (lenP ds ws') b := by unfold lenP; rw [List.foldl_append]; rfl
  rw [lvs_snoc] at hd
  rw [e, lvs_snoc]
  unfold lenF lvF at *
  by_cases h0 : 0 < b
  ·rw [if_pos h0] at hd ⊢
   have i1 := ih ws' h' (fun i hi => hd i (by rw [List.length_append]; omega))
   have hb := hd (lvs ws').length (by rw [List.length_append, List.length_singleton]; omega)
   rw [if_pos h0, List.count_append, i2, List.length_append, List.length_singleton, hb, i1]
   rfl
  ·rw [if_neg h0] at hd ⊢
   have i1 := ih ws' h' hd
   rw [if_neg h0, List.count_append, i1]
   rfl
theorem lens_whole {ws : List Nat} (hw : ws.length = 256) (h56 : ∀ x ∈ lensW ws, x ≤ 56) : wholeB (lensW ws) = true ∧ shr (lensW ws) 256 ≤ 2 ^ 56 := by
 have hl := lensW_length ws hw
 have hsum : shr (lensW ws) 256 = ((lvs ws).map fun p => gS ((depW ws).getD p.2 0)).sum := by
  rw [shr_sum, List.take_of_length_le (by omega)]
  exact lenP_sum (depW ws) _ ws rfl
 by_cases h2 : 2 ≤ (lvs ws).length
 ·have hk := kraft ((lvs ws).length - 1) (sortL (lvs ws)) (List.replicate (lvs ws).length 0).length 255 (by rw [sortL_length]; omega) (srt_num ws) (by have := lvs_le ws hw; omega)
  rw [List.length_replicate, kr_perm (sortL_perm _)] at hk
  have hpl := parW_length ws
  have hsc := sum_scale (lvs ws) (fun p => 2 ^ (255 - dpW ws p.2)) (fun p => gS ((depW ws).getD p.2 0)) (2 ^ 199) (fun p hp => by
   have hlt := lvs_lt ws p hp
   have hpos := depW_pos ws hw p.2 hlt
   have hd := depW_is ws hw h2 p.2 (by omega)
   have hle : (depW ws).getD p.2 0 ≤ 56 := by
    obtain ⟨i, hi, he⟩ := List.getElem_of_mem hp
    have hg : (lvs ws)[i]? = some p := by rw [List.getElem?_eq_getElem hi, he]
    have hnum := (lvs_num _ ws rfl i p hg).1
    -- the length of its byte
    obtain ⟨j, n, hj, hn0, hjl⟩ := lvs_byte ws i hi
    have hlg := lensW_get hw hj
    rw [if_pos hn0, hjl] at hlg
    rw [hnum, ← hlg]
    refine h56 _ ?_
    rw [List.getD_eq_getElem?_getD, List.getElem?_eq_getElem (by have := (List.getElem?_eq_some_iff.1 hj).1; omega)]
    exact List.getElem_mem _
   unfold gS
   rw [if_neg (by omega), hd, ← Nat.pow_add]
   congr 1
   omega)
  have hkr : kr 255 (dpF (sortL (lvs ws)) (lvs ws).length) (lvs ws) = ((lvs ws).map fun p => 2 ^ (255 - dpW ws p.2)).sum := rfl
  rw [hkr, hsc, ← hsum] at hk
  have hs : shr (lensW ws) 256 = 2 ^ 56 := by
   have e : (2 : Nat) ^ 255 = 2 ^ 199 * 2 ^ 56 := by rw [← Nat.pow_add]
   rw [e] at hk
   exact Nat.eq_of_mul_eq_mul_left (Nat.two_pow_pos 199) hk
  refine ⟨?_, by omega⟩
  unfold wholeB
  rw [decide_eq_true (.inr (.inr hs))]
 ·have hc0 := lenP_count0 (depW ws) _ ws rfl (fun i hi => depW_pos ws hw i hi)
  change (lensW ws).count 0 + _ = _ at hc0
  have hcod : cod (lensW ws) 256 = (lvs ws).length := by unfold cod; rw [ct_all _ _ _ (by omega)]; omega
  by_cases h1 : (lvs ws).length = 1
  ·have hc1 := lenP_count1 (depW ws) _ ws rfl (fun i hi => by
    obtain rfl : i = 0 := by omega
    exact depW_one ws h1)
   change (lensW ws).count 1 = _ at hc1
   refine ⟨?_, ?_⟩
   ·unfold wholeB
    rw [decide_eq_true (.inr (.inl ⟨by rw [hcod, h1], by rw [ct_all _ _ _ (by omega), hc1, h1]⟩))]
   ·obtain ⟨p, hp⟩ := List.length_eq_one_iff.1 h1
    have hn := lvs_lt ws p (by rw [hp]; simp)
    rw [hsum, hp]
    have : p.2 = 0 := by omega
    simp only [List.map_cons, List.map_nil, List.sum_cons, List.sum_nil, this, depW_one ws h1]
    decide
  ·have h0 : (lvs ws).length = 0 := by omega
   refine ⟨?_, ?_⟩
   ·unfold wholeB
    rw [decide_eq_true (.inl (by rw [hcod, h0]))]
   ·rw [hsum, List.length_eq_zero_iff.1 h0]; simp
def fcN (ls : List Nat) : Nat → Nat
 | 0 => 0
 | k + 1 => 2 * (fcN ls k + if k = 0 then 0 else ls.count k)
def shC (ls : List Nat) : Nat → Nat
 | 0 => 0
 | k + 1 => shC ls k + if k = 0 then 0 else ls.count k * 2 ^ (56 - k)
theorem shC_mono (ls : List Nat) : ∀ d k, shC ls k ≤ shC ls (k + d)
 | 0, k => Nat.le_refl _
 | d + 1, k => Nat.le_trans (shC_mono ls d k) (by rw [← Nat.add_assoc, shC]; omega)
theorem shC_sum : ∀ (ls : List Nat) (m : Nat), (∀ x ∈ ls, x < m) → shC ls m = (ls.map gS).sum
 | [], m, _ => by
  have : ∀ m, shC [] m = 0 := fun m => by induction m with
   | zero => rfl
   | succ m ih => rw [shC, ih]; simp
  rw [this]; rfl
 | x :: ls, m, h => by
  have ih := shC_sum ls m (fun y hy => h y (List.mem_cons_of_mem _ hy))
  have hx := h x (by simp)
  have hp : ∀ m, shC (x :: ls) m = shC ls m + if 0 < x ∧ x < m then 2 ^ (56 - x) else 0 := fun m => by
   induction m with
   | zero => simp [shC]
   | succ m ih2 =>
    rw [shC, shC, ih2]
    by_cases hm : m = 0
    ·subst hm; rw [if_pos rfl, if_pos rfl, if_neg (by omega), if_neg (by omega)]
    ·rw [if_neg hm, if_neg hm, List.count_cons]
     have e3 : (if (x == m) = true then 1 else 0) = if x = m then 1 else 0 := by simp
     rw [e3, Nat.add_mul]
     by_cases e : x = m
     ·subst e; rw [if_pos rfl, if_neg (by omega), if_pos (by omega)]; omega
     ·rw [if_neg e, Nat.zero_mul]
      split <;> split <;> omega
  rw [hp, ih, List.map_cons, List.sum_cons]
  unfold gS
  split <;> split <;> omega
theorem fcN_share (ls : List Nat) : ∀ k, k ≤ 56 → (fcN ls k + if k = 0 then 0 else ls.count k) * 2 ^ (56 - k) = shC ls (k + 1)
 | 0, _ => by simp [fcN, shC]
 | k + 1, h => by
  have ih := fcN_share ls k (by omega)
  rw [shC, ← ih, fcN, if_neg (show ¬ k + 1 = 0 by omega), if_neg (show ¬ k + 1 = 0 by omega)]
  have e : 2 ^ (56 - k) = 2 * 2 ^ (56 - (k + 1)) := by rw [← Nat.pow_succ']; congr 1; omega
  rw [e]
  generalize (fcN ls k + if k = 0 then 0 else ls.count k) = A
  generalize 2 ^ (56 - (k + 1)) = P
  rw [Nat.add_mul]
  congr 1
  rw [Nat.mul_comm 2 A, Nat.mul_assoc]
theorem fcN_room {ls : List Nat} (hl : ls.length = 256) (h56 : ∀ x ∈ ls, x ≤ 56) (hs : shr ls 256 ≤ 2 ^ 56) {k : Nat} (hk : k ≤ 56) : (fcN ls k + if k = 0 then 0 else ls.count k) ≤ 2 ^ k := by
 have h1 := fcN_share ls k hk
 have h2 := shC_mono ls (57 - (k + 1)) (k + 1)
 rw [show k + 1 + (57 - (k + 1)) = 57 by omega, shC_sum ls 57 (fun x hx => by have := h56 x hx; omega)] at h2
 rw [shr_sum, List.take_of_length_le (by omega)] at hs
 have h3 : (fcN ls k + if k = 0 then 0 else ls.count k) * 2 ^ (56 - k) ≤ 2 ^ k * 2 ^ (56 - k) := by
  rw [← Nat.pow_add, show k + (56 - k) = 56 by omega]; omega
 exact Nat.le_of_mul_le_mul_right h3 (Nat.two_pow_pos _)
theorem fcM_is {ls : List Nat} (hl : ls.length = 256) (h56 : ∀ x ∈ ls, x ≤ 56) (hs : shr ls 256 ≤ 2 ^ 56) : ∀ k, k ≤ 56 → fcM ls k = fcN ls k
 | 0, _ => rfl
 | k + 1, h => by
  have hr := fcN_room hl h56 hs (show k ≤ 56 by omega)
  have hp : 2 ^ k ≤ 2 ^ 55 := Nat.pow_le_pow_right (by decide) (by omega)
  have hp2 : (2 : Nat) ^ 55 = 36028797018963968 := by decide
  rw [fcM, fcN, fcM_is hl h56 hs k (by omega)]
  unfold M64'
  rw [Nat.mod_eq_of_lt (a := fcN ls k + _) (by omega), Nat.mod_eq_of_lt (by omega)]
theorem fcN_far (ls : List Nat) : ∀ d k, 0 < k → 2 ^ d * (fcN ls k + ls.count k) * (if d = 0 then 0 else 1) ≤ fcN ls (k + d)
 | 0, k, _ => by simp
 | d + 1, k, hk => by
  have ih := fcN_far ls d k hk
  rw [← Nat.add_assoc, fcN, if_neg (show ¬ d + 1 = 0 by omega), if_neg (show ¬ k + d = 0 by omega), Nat.mul_one]
  by_cases hd : d = 0
  ·subst hd
   rw [Nat.add_zero, Nat.pow_one]
   exact Nat.le_refl _
  ·rw [if_neg hd, Nat.mul_one] at ih
   rw [Nat.pow_succ', Nat.mul_assoc]
   omega
theorem codL_get {ls : List Nat} (hl : ls.length = 256) (h56 : ∀ x ∈ ls, x ≤ 56) (hs : shr ls 256 ≤ 2 ^ 56) {i k : Nat} (hi : ls[i]? = some k) (hk : 0 < k) : (codL ls).getD i 0 = fcN ls k + ct ls k i ∧ fcN ls k + ct ls k i < 2 ^ k := by
 have hil := (List.getElem?_eq_some_iff.1 hi).1
 have hg := getD_of hi
 have hk56 := h56 k (List.mem_of_getElem? hi)
 have hr := fcN_room hl h56 hs hk56
 rw [if_neg (by omega)] at hr
 have hc := ct_lt_all hi
 have hp : 2 ^ k ≤ 2 ^ 56 := Nat.pow_le_pow_right (by decide) hk56
 have hp2 : (2 : Nat) ^ 56 = 72057594037927936 := by decide
 refine ⟨?_, by omega⟩
 unfold codL
 rw [List.getD_eq_getElem?_getD, mapR_get _ (by omega), hg, if_pos hk]
 show cdV ls i = _
 unfold cdV
 rw [hg, fcM_is hl h56 hs k hk56]
 unfold M64'
 exact Nat.mod_eq_of_lt (by omega)
def gB : Nat → Nat → Nat → Nat
 | 0, m, w => w
 | d + 1, m, w => gB d w (w + m)
theorem gB_mono : ∀ d {m m' w w' : Nat}, m ≤ m' → w ≤ w' → gB d m w ≤ gB d m' w'
 | 0, _, _, _, _, _, h => h
 | d + 1, _, _, _, _, h1, h2 => gB_mono d h2 (by omega)
theorem gB_pow : ∀ d {c m w : Nat}, c ≤ m → c ≤ w → c * 2 ^ (d / 2) ≤ gB d m w
 | 0, c, m, w, _, h => by simpa [gB] using h
 | 1, c, m, w, h1, h2 => by
  show c * 2 ^ 0 ≤ w + m
  omega
 | d + 2, c, m, w, h1, h2 => by
  have := gB_pow d (c := 2 * c) (m := w + m) (w := w + m + w) (by omega) (by omega)
  show _ ≤ gB d (w + m) (w + m + w)
  rw [show (d + 2) / 2 = d / 2 + 1 by omega, Nat.pow_succ]
  rw [show c * (2 ^ (d / 2) * 2) = 2 * c * 2 ^ (d / 2) by rw [Nat.mul_comm (2 ^ (d / 2)) 2, ← Nat.mul_assoc, Nat.mul_comm c 2]]
  exact this
def wsum (s : List N2) : Nat := (s.map (·.1)).sum
theorem wsum_cons (p : N2) (s : List N2) : wsum (p :: s) = p.1 + wsum s := by simp [wsum]
theorem wsum_perm {s t : List N2} (h : s.Perm t) : wsum s = wsum t := (h.map _).sum_nat
theorem wsum_mem : ∀ {s : List N2} {p : N2}, p ∈ s → p.1 ≤ wsum s
 | q :: s, p, h => by
  rw [wsum_cons]
  rcases List.mem_cons.1 h with rfl | h
  ·omega
  ·have := wsum_mem h; omega
theorem kf_le {p q : N2} (h : kf p ≤ kf q) (hq : q.2 < 1024) : p.1 ≤ q.1 := by
 unfold kf at h; omega
theorem dp_heavy : ∀ (n : Nat) (s : List N2) (num m : Nat), s.length = n + 1 → SrtL s → NumOk s num → num + n < 1024 → wsum s < 18446744073709551616 → (∀ p ∈ s, m ≤ p.1) → ∀ p ∈ s, gB (dpF s num p.2) m p.1 ≤ wsum s
 | 0, s, num, m, hl, hs, hn, hnum, hw, hm, p, hp => by
  rw [dpF_end _ _ _ (by omega)]
  exact wsum_mem hp
 | n + 1, s, num, m, hl, hs, hn, hnum, hw, hm, p, hp => by
  match s, hl with
  | a :: b :: r, hl =>
   have hlt : ∀ q ∈ a :: b :: r, q.2 < 1024 := fun q hq => by have := hn.1 q hq; omega
   have hab : a.1 ≤ b.1 := kf_le (hs.1 b (by simp)) (hlt b (by simp))
   have hbr : ∀ q ∈ r, b.1 ≤ q.1 := fun q hq => kf_le (hs.2.1 q hq) (hlt q (by simp [hq]))
   have hma := hm a (by simp)
   have hmb := hm b (by simp)
   have hw2 : wsum (a :: b :: r) = a.1 + b.1 + wsum r := by rw [wsum_cons, wsum_cons]; omega
   have hsum : sumW a.1 b.1 = a.1 + b.1 := by unfold sumW; rw [if_pos (by omega)]
   have hn' := numOk_step (w := sumW a.1 b.1) hn
   have hs' := insL_srt (sumW a.1 b.1, num) r hs.2.2
   have hpm := insL_perm (sumW a.1 b.1, num) r
   have hw' : wsum (insL (sumW a.1 b.1, num) r) = wsum (a :: b :: r) := by
    rw [wsum_perm hpm, wsum_cons, hw2, hsum]
   have hl' : (insL (sumW a.1 b.1, num) r).length = n + 1 := by rw [insL_length]; simp at hl; omega
   have ih := fun m hm => dp_heavy n (insL (sumW a.1 b.1, num) r) (num + 1) m hl' hs' hn' (by omega) (by rw [hw']; exact hw) hm
   have hnew := (hpm.mem_iff (a := (sumW a.1 b.1, num))).2 (by simp)
   have hall : ∀ c, c ≤ b.1 → ∀ q ∈ insL (sumW a.1 b.1, num) r, c ≤ q.1 := fun c hc q hq => by
    rcases List.mem_cons.1 (hpm.mem_iff.1 hq) with rfl | hq
    ·show c ≤ sumW a.1 b.1; omega
    ·have := hbr q hq; omega
   rw [dpF_step]
   rw [hw'] at ih
   rcases List.mem_cons.1 hp with rfl | hp
   ·rw [if_pos (.inl rfl)]
    refine Nat.le_trans ?_ (ih p.1 (hall _ hab) _ hnew)
    show gB _ p.1 (p.1 + m) ≤ gB _ p.1 (sumW p.1 b.1)
    exact gB_mono _ (Nat.le_refl _) (by omega)
   rcases List.mem_cons.1 hp with rfl | hp
   ·rw [if_pos (.inr rfl)]
    refine Nat.le_trans ?_ (ih p.1 (hall _ (Nat.le_refl _)) _ hnew)
    show gB _ p.1 (p.1 + m) ≤ gB _ p.1 (sumW a.1 p.1)
    exact gB_mono _ (Nat.le_refl _) (by omega)
   ·have hnd := hn.2
    simp only [List.map_cons, List.nodup_cons, List.mem_cons, not_or] at hnd
    have hpr : p.2 ∈ r.map (·.2) := List.mem_map.2 ⟨p, hp, rfl⟩
    rw [if_neg (by
     rintro (e | e)
     ·exact hnd.1.2 (e ▸ hpr)
     ·exact hnd.2.1 (e ▸ hpr))]
    exact ih m (hall _ hmb) p (hpm.mem_iff.2 (by simp [hp]))
theorem lvs_pos (m : Nat) : ∀ ws : List Nat, ws.length = m → wsum (lvs ws) = ws.sum ∧ ∀ p ∈ lvs ws, 1 ≤ p.1 := by
 induction m with
 | zero => intro ws h; rw [List.length_eq_zero_iff.1 h]; exact ⟨rfl, fun p hp => by simp [lvs] at hp⟩
 | succ m ih =>
  intro ws h
  obtain ⟨ws', b, rfl⟩ : ∃ l b, ws = l ++ [b] := ⟨ws.dropLast, ws.getLast (by intro e; rw [e] at h; simp at h), (List.dropLast_concat_getLast _).symm⟩
  have h' : ws'.length = m := by simpa using h
  obtain ⟨h1, h2⟩ := ih ws' h'
  rw [lvs_snoc, List.sum_append]
  unfold lvF
  by_cases h0 : 0 < b
  ·rw [if_pos h0]
   refine ⟨?_, fun p hp => ?_⟩
   ·unfold wsum at *; rw [List.map_append, List.sum_append, h1]; simp
   ·rcases List.mem_append.1 hp with hp | hp
    ·exact h2 p hp
    ·rw [List.mem_singleton] at hp; rw [hp]; exact h0
  ·rw [if_neg h0]
   exact ⟨by rw [h1]; simp; omega, h2⟩
theorem dpW_small {ws : List Nat} (hw : ws.length = 256) {T : Nat} (hT : ws.sum ≤ T) (hT2 : T < 67108864) (i : Nat) (hi : i < (lvs ws).length) : dpW ws i ≤ 52 := by
 obtain ⟨h1, h2⟩ := lvs_pos _ ws rfl
 have hg := List.getElem?_eq_getElem hi
 have hnum := (lvs_num _ ws rfl i _ hg).1
 have hle := lvs_le ws hw
 have hsn := srt_num ws
 rw [List.length_replicate] at hsn
 have hh := dp_heavy ((lvs ws).length - 1) (sortL (lvs ws)) (lvs ws).length 1 (by rw [sortL_length]; omega) (sortL_srt _) hsn (by omega) (by rw [wsum_perm (sortL_perm _), h1]; omega)
  (fun p hp => h2 p ((sortL_perm _).mem_iff.1 hp)) _ ((sortL_perm _).mem_iff.2 (List.getElem_mem hi))
 rw [hnum, wsum_perm (sortL_perm _), h1] at hh
 have hp := gB_pow (dpF (sortL (lvs ws)) (lvs ws).length i) (c := 1) (m := 1) (w := ((lvs ws)[i]'hi).1) (Nat.le_refl _) (h2 _ (List.getElem_mem hi))
 rw [Nat.one_mul] at hp
 show dpF (sortL (lvs ws)) (lvs ws).length i ≤ 52
 generalize dpF (sortL (lvs ws)) (lvs ws).length i = d at *
 rcases Nat.lt_or_ge d 52 with h | h
 ·omega
 ·have h12 : 2 ^ 26 ≤ 2 ^ (d / 2) := Nat.pow_le_pow_right (by decide) (by omega)
  have : (2 : Nat) ^ 26 = 67108864 := by decide
  omega
theorem lensW_small {ws : List Nat} (hw : ws.length = 256) {T : Nat} (hT : ws.sum ≤ T) (hT2 : T < 67108864) : ∀ x ∈ lensW ws, x ≤ 52 := by
 intro x hx
 obtain ⟨j, hj, rfl⟩ := List.getElem_of_mem hx
 rw [lensW_length ws hw] at hj
 have hn : ws[j]? = some (ws[j]'(by omega)) := List.getElem?_eq_getElem (by omega)
 have hlg := lensW_get hw hn
 rw [List.getD_eq_getElem?_getD, List.getElem?_eq_getElem (by rw [lensW_length ws hw]; exact hj)] at hlg
 rw [show (lensW ws)[j] = _ from hlg]
 by_cases h0 : 0 < ws[j]'(by omega)
 ·rw [if_pos h0]
  have hlt := lvs_at hn h0
  have hpl := parW_length ws
  by_cases h1 : (lvs ws).length = 1
  ·rw [show (lvs (ws.take j)).length = 0 by omega, depW_one ws h1]; decide
  ·rw [depW_is ws hw (by omega) _ (by omega)]
   exact dpW_small hw hT hT2 _ hlt
 ·rw [if_neg h0]; exact Nat.zero_le _
theorem sum_zeros : ∀ n : Nat, (List.replicate n 0).sum = 0
 | 0 => rfl
 | n + 1 => by rw [List.replicate_succ, List.sum_cons, sum_zeros n]
theorem cntL_sum (n : Nat) : ∀ bs : List UInt8, bs.length = n → (cntL bs).sum = n := by
 induction n with
 | zero => intro bs h; rw [List.length_eq_zero_iff.1 h, cntL_nil]; exact sum_zeros _
 | succ n ih =>
  intro bs h
  obtain ⟨bs', b, rfl⟩ : ∃ l b, bs = l ++ [b] := ⟨bs.dropLast, bs.getLast (by intro e; rw [e] at h; simp at h), (List.dropLast_concat_getLast _).symm⟩
  have h' : bs'.length = n := by simpa using h
  rw [cntL_snoc]
  have hs : ∀ (l : List Nat) (i : Nat), i < l.length → (l.set i (l.getD i 0 + 1)).sum = l.sum + 1 := fun l => by
   induction l with
   | nil => intro i hi; simp at hi
   | cons x l ihl =>
    intro i hi
    cases i with
    | zero => simp; omega
    | succ i =>
     have := ihl i (by simpa using hi)
     simp only [List.set_cons_succ, List.sum_cons, List.getD_cons_succ, this]
     omega
  unfold cntF
  rw [hs _ _ (by rw [cntL_length]; exact b.toNat_lt), ih bs' h']
theorem lens_text (bs : List UInt8) (h : bs.length ≤ 60000000) : ∀ x ∈ lensW (cntL bs), x ≤ 56 := fun x hx => by
 have := lensW_small (cntL_length bs) (T := 60000000) (by rw [cntL_sum _ bs rfl]; exact h) (by decide) x hx
 omega
end Go.Proofs.YtmadgdmiipgjoaaGreat
