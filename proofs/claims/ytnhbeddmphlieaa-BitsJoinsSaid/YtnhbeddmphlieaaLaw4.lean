import Derived.Test.YtnhbeddmphlieaaLaw3
namespace Go.Proofs.Ytnhbeddmphlieaa
open Go.RowKit
set_option linter.unusedVariables false
set_option linter.unusedSimpArgs false
theorem cutB_split (s : ByteArray) (i a b : Nat) : cutB s i (a + b) = cutB s i a ++ cutB s (i + a) b := by
  unfold cutB; rw [List.take_add, List.drop_drop]
theorem mod33 (x : Int) : ∃ a : Nat, a < 33 ∧ (IntKind.u64.wrap x).tmod 33 = (a : Int) := by
  have h := IntKind.wrap_u64 x
  refine ⟨((IntKind.u64.wrap x).tmod 33).toNat, ?_⟩
  rw [h, Int.tmod_eq_emod_of_nonneg (by omega)]
  omega
theorem BwAt.empty {w : World} {B g : Nat} (h : Lies w g 26 #[.slice none 0 0, .int .i64 0]) : BwAt w B g [] := ⟨_, h, World.ownsRow_nil _ _ _ _⟩
set_option maxHeartbeats 2000000 in
set_option maxRecDepth 100000 in
theorem joins_walk (a0 a1 a2 : Int) (w : World) (w0 : (Lit.int .u64 a0).wf = true) (w1 : (Lit.int .i64 a1).wf = true) (w2 : (Lit.int .i64 a2).wf = true) :
    Calls Try.prog 6 #[.int .u64 a0, .int .i64 a1, .int .i64 a2] w fun e w' => e = .returned (.bool true) ∧ Below w.heap.size w w' := by
  obtain ⟨hn0, hn1⟩ := Go.bounds_u64 w0
  clear w0 w1 w2
  obtain ⟨n, rfl⟩ : ∃ n : Nat, a0 = (n : Int) := ⟨a0.toNat, by omega⟩
  obtain ⟨a, ha, hae⟩ := mod33 a1
  obtain ⟨b, hb, hbe⟩ := mod33 a2
  have hn2 : n < 18446744073709551616 := by omega
  have hlw := Lies.made w 26 #[.slice none 0 0, .int .i64 0]
  have hlw2 := hlw.kept (S := noRow) (Kept.of_below ((Below.refl _ _).alloc (Nat.le_refl _) (.cells #[.slice none 0 0, .int .i64 0] 26))) (fun h => h)
  have hlx := Lies.made (w.alloc (.cells #[.slice none 0 0, .int .i64 0] 26)) 26 #[.slice none 0 0, .int .i64 0]
  have hbel := ((Below.refl w.heap.size w).alloc (Nat.le_refl _) (.cells #[.slice none 0 0, .int .i64 0] 26)).alloc (by simp) (.cells #[.slice none 0 0, .int .i64 0] 26)
  have hsz : (w.alloc (.cells #[.slice none 0 0, .int .i64 0] 26)).heap.size = w.heap.size + 1 := by simp
  rw [hsz] at hlx
  have HLW := Lib.hid hlw2
  have HLX := Lib.hid hlx
  clear hlw hlw2 hlx hsz
  go_enter Try.func6, Try.ntmps6
  go_wp2_with fail
  generalize (w.alloc (.cells #[.slice none 0 0, .int .i64 0] 26)).alloc (.cells #[.slice none 0 0, .int .i64 0] 26) = wB at *
  refine (awake_any wB).mono ?_
  rintro e w1 ⟨rfl, hb1⟩
  have hbel1 := hbel.trans (hb1.mono hbel.size)
  have HW1 := Lib.hid (BwAt.empty (B := w1.heap.size) (HLW.out.kept (S := noRow) (Kept.of_below hb1) (fun h => h)))
  have HX1 := Lib.hid (HLX.out.kept (S := noRow) (Kept.of_below hb1) (fun h => h))
  clear HLW HLX hb1 hbel
  have hg1 : w.heap.size + 1 < w1.heap.size := HX1.out.lt
  obtain ⟨m, hm⟩ : ∃ m, n / 2 ^ b = m := ⟨_, rfl⟩
  have hmi : (n : Int) / 2 ^ b = (m : Int) := by rw [← hm, Int.natCast_ediv, Int.natCast_pow]; rfl
  have hmn : m < 18446744073709551616 := by rw [← hm]; exact Nat.lt_of_le_of_lt (Nat.div_le_self _ _) hn2
  have HM := Lib.hid hm
  clear hm
  go_wp2_with fail
  refine (bitsPut w1.heap.size w.heap.size m a [] w1 HW1.out (Nat.le_refl _) (by simp; omega) hmn (by omega)).mono ?_
  rintro e w2 ⟨rfl, hw2, hk2⟩
  have HX2 := Lib.hid (HX1.out.kept hk2 (by rintro (h | ⟨h, _⟩) <;> omega))
  have hbel2 := below_bw hbel1 hk2 (by omega) (Nat.le_refl _) hbel1.size
  have hs2 := hk2.size
  have HW2 := Lib.hid hw2
  clear hw2 HW1 HX1 hk2 hbel1 hmi
  go_wp2_with fail
  refine (bitsPut w1.heap.size w.heap.size n b _ w2 HW2.out hs2 (by simp [bitsN_length]; omega) hn2 (by omega)).mono ?_
  rintro e w3 ⟨rfl, hw3, hk3⟩
  have hx3 := HX2.out.kept hk3 (by rintro (h | ⟨h, _⟩) <;> omega)
  have hbel3 := below_bw hbel2 hk3 (by omega) (Nat.le_refl _) hbel2.size
  have hs3 := Nat.le_trans hs2 hk3.size
  rw [List.nil_append, ← HM.out, ← bitsN_add] at hw3
  have HW3 := Lib.hid hw3
  have HX3 := Lib.hid (BwAt.empty (B := w3.heap.size) hx3)
  clear hw3 HW2 HX2 hk3 hbel2 hx3 hs2
  obtain ⟨c, hc⟩ : ∃ c, a + b = c := ⟨_, rfl⟩
  have hab : (a : Int) + (b : Int) = (c : Int) := by omega
  have hc64 : c ≤ 64 := by omega
  rw [hc] at HW3
  have HC := Lib.hid hc
  clear hc
  go_wp2_with fail
  refine (bitsPut w3.heap.size (w.heap.size + 1) n c [] w3 HX3.out (Nat.le_refl _) (by simp; omega) hn2 hc64).mono ?_
  rintro e w4 ⟨rfl, hx4, hk4⟩
  have hw4 := HW3.out.kept hk4 (by rintro (h | ⟨h, _⟩) <;> omega) (fun r h1 h2 => by rintro (h | ⟨h, _⟩) <;> omega)
  have hs4 := Nat.le_trans hs3 hk4.size
  have hbel4 := below_bw hbel3 hk4 hbel3.size (by omega) hbel3.size
  rw [List.nil_append] at hx4
  have HS4 := Lib.hid (bitsString _ _ _ w4 hw4)
  have HX4 := Lib.hid hx4
  have HW4 := Lib.hid hw4
  have hts : (textB (packB (bitsN n c))).size = (c + 7) / 8 := by rw [textB_size, packB_length, bitsN_length]
  obtain ⟨T, hT⟩ : ∃ T, textB (packB (bitsN n c)) = T := ⟨_, rfl⟩
  rw [hT] at hts HS4
  have HTT := Lib.hid hT
  clear hT
  clear hx4 hw4 hk4 hbel3 HW3 HX3
  have hTs : T.size ≤ 1099511627776 := by omega
  have hT8 : c ≤ 8 * T.size := by omega
  have HTS := Lib.hid hts
  clear hts
  go_wp2_with fail
  refine HS4.out.mono ?_
  rintro e w' ⟨rfl, rfl⟩
  go_wp2_with fail
  refine (bitsNew T w4 hTs).mono ?_
  rintro e w5 ⟨rfl, hr5, hk5⟩
  have hb45 : Below w4.heap.size w4 w5 := hk5.below (Nat.le_refl _) (fun _ _ hf => hf)
  have hbel5 := hbel4.trans (hb45.mono hbel4.size)
  have HW5 := Lib.hid (HW4.out.later hb45)
  have HX5 := Lib.hid (HX4.out.later hb45)
  have HR5 := Lib.hid hr5
  have hg45 : w4.heap.size < w5.heap.size := hr5.lt
  have hg4 : w.heap.size ≤ w4.heap.size := hbel4.size
  clear HS4 HW4 HX4 hr5 hk5 hb45 hbel4
  generalize w4.heap.size = r at *
  have HS5 := Lib.hid (bitsString _ _ _ w5 HW5.out)
  go_wp2_with fail
  refine (bitsString _ _ _ w5 HW5.out).mono ?_
  rintro e w' ⟨rfl, rfl⟩
  have HTX : Hid (textB (packB (bitsN n c)) = T) := HTT
  rw [HTX.out]
  go_wp2_with fail
  refine (bitsNew T w5 hTs).mono ?_
  rintro e w6 ⟨rfl, hq6, hk6⟩
  have hb56 : Below w5.heap.size w5 w6 := hk6.below (Nat.le_refl _) (fun _ _ hf => hf)
  have hbel6 := hbel5.trans (hb56.mono hbel5.size)
  have HW6 := Lib.hid (HW5.out.later hb56)
  have HX6 := Lib.hid (HX5.out.later hb56)
  have HR6 := Lib.hid (HR5.out.later hb56)
  have HQ6 := Lib.hid hq6
  have hg56 : w5.heap.size < w6.heap.size := hq6.lt
  have hg5 : w.heap.size ≤ w5.heap.size := hbel5.size
  clear HS5 HW5 HX5 HR5 hq6 hk6 hb56 hbel5
  generalize w5.heap.size = q at *
  obtain ⟨H, hH⟩ : ∃ H, numB (cutB T 0 a) = H := ⟨_, rfl⟩
  obtain ⟨L, hL⟩ : ∃ L, numB (cutB T a b) = L := ⟨_, rfl⟩
  obtain ⟨M, hM⟩ : ∃ M, numB (cutB T 0 c) = M := ⟨_, rfl⟩
  have hca : (cutB T 0 a).length = a := cutB_length T 0 a (by have := HC.out; omega)
  have hcb : (cutB T a b).length = b := cutB_length T a b (by have := HC.out; omega)
  have hHl : H < 2 ^ a := by have := numB_lt (cutB T 0 a); rwa [hH, hca] at this
  have hLl : L < 2 ^ b := by have := numB_lt (cutB T a b); rwa [hL, hcb] at this
  have hMe : M = H * 2 ^ b + L := by
    rw [← hM, ← HC.out, cutB_split, numB_append, hH, Nat.zero_add, hL, hcb]
  have hMl : M < 18446744073709551616 := by
    have h1 := numB_lt (cutB T 0 c)
    rw [hM, cutB_length T 0 c (by omega)] at h1
    exact Nat.lt_of_lt_of_le h1 (Nat.pow_le_pow_right (by decide) hc64)
  have hT1 := fun w (h : BrAt w r T 0) => bitsTakeOk r T 0 a w h (by omega) (by have := HC.out; omega)
  have hT2 := fun w (h : BrAt w r T a) => bitsTakeOk r T a b w h (by omega) (by have := HC.out; omega)
  have hT3 := fun w (h : BrAt w q T 0) => bitsTakeOk q T 0 c w h hc64 (by omega)
  rw [hH, Nat.zero_add] at hT1
  rw [hL] at hT2
  rw [hM] at hT3
  have HT1 := Lib.hid hT1
  have HT2 := Lib.hid hT2
  have HT3 := Lib.hid hT3
  have hH64 : H < 18446744073709551616 := by
    have : 2 ^ a ≤ 2 ^ 64 := Nat.pow_le_pow_right (by decide) (by omega)
    omega
  have hL64 : L < 18446744073709551616 := by
    have : 2 ^ b ≤ 2 ^ 64 := Nat.pow_le_pow_right (by decide) (by omega)
    omega
  obtain ⟨X, hX⟩ : ∃ X, H * 2 ^ b = X := ⟨_, rfl⟩
  have hor : X ||| L = M := by rw [hMe, ← hX, Nat.or_comm, or_add hLl, Nat.add_comm]
  have hXi : (H : Int) * 2 ^ b = (X : Int) := by rw [← hX, Int.natCast_mul, Int.natCast_pow]; rfl
  have hXl : X < 18446744073709551616 := by omega
  have hOR : bits .or .u64 (X : Int) (L : Int) = (M : Int) := by rw [u64_or_nat X L hXl hL64, hor]
  have HOR := Lib.hid hOR
  clear hH hL hM hca hcb hHl hLl hMe hor hX hOR hT1 hT2 hT3
  go_wp2_with fail
  refine (HT1.out w6 HR6.out).mono ?_
  rintro e w7 ⟨rfl, hr7, hk7⟩
  have hW7 := HW6.out.keptT hk7 (fun e : w.heap.size = r => by omega) (fun k cur hl (e : k = r) => by subst e; exact absurd (hl.same HR6.out.1).1 (by decide))
  have hX7 := HX6.out.keptT hk7 (fun e : w.heap.size + 1 = r => by omega) (fun k cur hl (e : k = r) => by subst e; exact absurd (hl.same HR6.out.1).1 (by decide))
  have hQ7 := HQ6.out.kept hk7 (fun e : q = r => by omega)
  have hbel7 := hbel6.trans (hk7.below hbel6.size (fun j hj (e : j = r) => by omega))
  have HW7 := Lib.hid hW7
  have HX7 := Lib.hid hX7
  have HQ7 := Lib.hid hQ7
  have HR7 := Lib.hid hr7
  clear hW7 hX7 hQ7 hr7 hk7 HW6 HX6 HQ6 HR6 hbel6 HT1
  go_wp2_with fail
  refine (HT2.out w7 HR7.out).mono ?_
  rintro e w8 ⟨rfl, hr8, hk8⟩
  have hW8 := HW7.out.keptT hk8 (fun e : w.heap.size = r => by omega) (fun k cur hl (e : k = r) => by subst e; exact absurd (hl.same HR7.out.1).1 (by decide))
  have hX8 := HX7.out.keptT hk8 (fun e : w.heap.size + 1 = r => by omega) (fun k cur hl (e : k = r) => by subst e; exact absurd (hl.same HR7.out.1).1 (by decide))
  have hQ8 := HQ7.out.kept hk8 (fun e : q = r => by omega)
  have hbel8 := hbel7.trans (hk8.below hbel7.size (fun j hj (e : j = r) => by omega))
  have HW8 := Lib.hid hW8
  have HX8 := Lib.hid hX8
  have HQ8 := Lib.hid hQ8
  clear hW8 hX8 hQ8 hr8 hk8 HW7 HX7 HQ7 HR7 hbel7 HT2
  go_wp2_with fail
  refine (HT3.out w8 HQ8.out).mono ?_
  rintro e w9 ⟨rfl, hq9, hk9⟩
  have hW9 := HW8.out.keptT hk9 (fun e : w.heap.size = q => by omega) (fun k cur hl (e : k = q) => by subst e; exact absurd (hl.same HQ8.out.1).1 (by decide))
  have hX9 := HX8.out.keptT hk9 (fun e : w.heap.size + 1 = q => by omega) (fun k cur hl (e : k = q) => by subst e; exact absurd (hl.same HQ8.out.1).1 (by decide))
  have hbel9 := hbel8.trans (hk9.below hbel8.size (fun j hj (e : j = q) => by omega))
  have hs9 := bitsString _ _ _ w9 hW9
  have ht9 := bitsString _ _ _ w9 hX9
  rw [HTT.out] at hs9 ht9
  have HS9 := Lib.hid hs9
  have HT9 := Lib.hid ht9
  clear hW9 hX9 hq9 hk9 HW8 HX8 HQ8 hbel8 HT3 hs9 ht9
  go_wp2_with fail
  refine HS9.out.mono ?_
  rintro e w' ⟨rfl, rfl⟩
  go_wp2_with fail
  refine HT9.out.mono ?_
  rintro e w' ⟨rfl, rfl⟩
  go_wp2
  go_ret
  exact ⟨by simp [HOR.out], hbel9⟩
end Go.Proofs.Ytnhbeddmphlieaa
