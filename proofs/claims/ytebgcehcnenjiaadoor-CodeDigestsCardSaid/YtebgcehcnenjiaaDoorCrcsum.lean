/-
  The document's Sum of layer 5, and code.Sum's table.
-/
import Derived.Test.YtebgcehcnenjiaaDoorCrcmore
namespace Go.Proofs.YtebgcehcnenjiaaDoor
open Go.RowKit
set_option linter.unusedVariables false
set_option linter.unusedSimpArgs false
def entN : List Nat := (List.range 256).map entry
theorem tab_cells : tab = cellsU entN := by simp [tab, entries, cellsU, entN]
theorem isT_entN : IsT entN := ⟨by simp [entN], fun n hn => by
  obtain ⟨i, hi, rfl⟩ := List.mem_map.1 hn
  exact halves_lt 8 i (by have := List.mem_range.1 hi; omega)⟩
theorem entN_get (i : Nat) (hi : i < 256) : entN[i]? = some (entry i) := by simp [entN, hi]
theorem crcTable2 (w : World) : Calls Tryd.prog 39 #[] w fun e w' => e = .returned (.agg (cellsU entN).toArray) ∧ Below w.heap.size w w' := by
  rw [← tab_cells]; exact crcTable w
theorem bit_toNat (x k : Nat) : x / 2 ^ k % 2 = (x.testBit k).toNat := by rw [Nat.toNat_testBit]
theorem xor_step (a b k : Nat) : (a ^^^ b) % 2 ^ (k + 1) = (a ^^^ b) % 2 ^ k + (if a / 2 ^ k % 2 = b / 2 ^ k % 2 then 0 else 2 ^ k) := by
  rw [Nat.mod_pow_succ, bit_toNat, bit_toNat, bit_toNat, Nat.testBit_xor]
  cases a.testBit k <;> cases b.testBit k <;> simp
theorem pow_le32 (k : Nat) (h : k ≤ 31) : 2 ^ k ≤ 2147483648 := Nat.pow_le_pow_right (n := 2) (by decide) h
theorem refXor (a b : Nat) (w : World) (ha : a < 4294967296) (hb : b < 4294967296) :
    Calls Tryd.prog 49 #[.int .u32 a, .int .u32 b] w fun e w' => e = .returned (.int .u32 (a ^^^ b : Nat)) ∧ w = w' := by
  have hxl := xor_lt32 a b ha hb
  have HA := Lib.hid ha
  have HB := Lib.hid hb
  have HX := Lib.hid hxl
  clear ha hb hxl
  go_enter Tryd.func49, Tryd.ntmps49
  go_wp2_with fail
  go_loopw [0, 1, 5, 6, 7] (fun x y o u c wr => ∃ k : Nat, k ≤ 32 ∧ c = .int .i64 k ∧ x = .int .u32 (a / 2 ^ k : Nat) ∧ y = .int .u32 (b / 2 ^ k : Nat) ∧ o = .int .u32 ((a ^^^ b) % 2 ^ k : Nat) ∧ u = .int .u32 (2 ^ k % 4294967296 : Nat) ∧ wr = w)
    (fun _ _ _ _ c _ => 32 - (intOf c).toNat)
  case atStart => exact ⟨0, by omega, rfl, by rw [Nat.pow_zero, Nat.div_one], by rw [Nat.pow_zero, Nat.div_one], by rw [Nat.pow_zero, Nat.mod_one]; rfl, rfl, rfl⟩
  case round =>
    obtain ⟨k, hk, rfl, rfl, rfl, rfl, rfl, rfl⟩ := hrel
    by_cases hlt : k < 32
    · have hki : (k : Int) < 32 := by omega
      have hp := pow_le32 k (by omega)
      have hu : 2 ^ k % 4294967296 = 2 ^ k := Nat.mod_eq_of_lt (by omega)
      have hu2 : 2 ^ (k + 1) % 4294967296 = 2 ^ k * 2 % 4294967296 := by rw [Nat.pow_succ]
      have hst := xor_step a b k
      have hda : a / 2 ^ (k + 1) = a / 2 ^ k / 2 := by rw [Nat.pow_succ, Nat.div_div_eq_div_mul]
      have hdb : b / 2 ^ (k + 1) = b / 2 ^ k / 2 := by rw [Nat.pow_succ, Nat.div_div_eq_div_mul]
      have hol : (a ^^^ b) % 2 ^ k < 2 ^ k := Nat.mod_lt _ (Nat.two_pow_pos k)
      have hAl : a / 2 ^ k ≤ a := Nat.div_le_self _ _
      have hBl : b / 2 ^ k ≤ b := Nat.div_le_self _ _
      have ha1 := HA.out
      have hb1 := HB.out
      rw [hu]
      have HU2 := Lib.hid hu2
      have HST := Lib.hid hst
      have HDA := Lib.hid hda
      have HDB := Lib.hid hdb
      generalize a / 2 ^ k = A at *
      generalize b / 2 ^ k = B at *
      generalize (a ^^^ b) % 2 ^ k = O at *
      generalize 2 ^ k = U at *
      have hA3 : A ≤ 4294967295 := by omega
      have hB3 : B ≤ 4294967295 := by omega
      have hU3 : U ≤ 2147483648 := hp
      have hO3 : O ≤ 2147483647 := by omega
      clear hu hu2 hst hda hdb hol hAl hBl ha1 hb1 hp
      by_cases hab : A % 2 = B % 2
      · have hi : (A : Int) % 2 = (B : Int) % 2 := by omega
        have e1 : ((A : Int) % 2 != (B : Int) % 2) = false := by simp [hi]
        have e2 : ((A : Int) % 2 == (B : Int) % 2) = true := by simp [hi]
        have HAB := Lib.hid hab
        clear hab hi
        go_wp2_with fail
        go_roundw
        case rel => exact ⟨k + 1, by omega, by go_num, by rw [HDA.out]; rfl, by rw [HDB.out]; rfl, by rw [HST.out, if_pos HAB.out, Nat.add_zero], by rw [HU2.out]; rfl, trivial⟩
        case measure => simp [intOf]; omega
      · have hi : ¬ (A : Int) % 2 = (B : Int) % 2 := by omega
        have e1 : ((A : Int) % 2 != (B : Int) % 2) = true := by simp [hi]
        have e2 : ((A : Int) % 2 == (B : Int) % 2) = false := by simp [hi]
        have HAB := Lib.hid hab
        clear hab hi
        go_wp2_with fail
        go_roundw
        case rel => exact ⟨k + 1, by omega, by go_num, by rw [HDA.out]; rfl, by rw [HDB.out]; rfl, by rw [HST.out, if_neg HAB.out]; rfl, by rw [HU2.out]; rfl, trivial⟩
        case measure => simp [intOf]; omega
    · obtain rfl : k = 32 := by omega
      have hfull : (a ^^^ b) % 2 ^ 32 = a ^^^ b := Nat.mod_eq_of_lt HX.out
      rw [hfull]
      have h3 : a ^^^ b ≤ 4294967295 := by have := HX.out; omega
      obtain ⟨R, hR⟩ : ∃ R, R = a ^^^ b := ⟨_, rfl⟩
      rw [← hR] at h3 ⊢
      have HR := Lib.hid hR
      clear hfull hR
      generalize a / 2 ^ 32 = A at *
      generalize b / 2 ^ 32 = B at *
      generalize 2 ^ 32 % 4294967296 = U at *
      go_wp2
      go_ret
      exact ⟨ret_int (by rw [HR.out]), rfl⟩
theorem halves_succ (k n : Nat) : halves (k + 1) n = half (halves k n) := rfl
theorem xor_half (a b : Nat) : (a ^^^ b) / 2 = (a / 2) ^^^ (b / 2) := by
  apply Nat.eq_of_testBit_eq
  intro i
  rw [Nat.testBit_div_two, Nat.testBit_xor, Nat.testBit_xor, Nat.testBit_div_two, Nat.testBit_div_two]
theorem xor_par (a b : Nat) : (a ^^^ b) % 2 = (a % 2 + b % 2) % 2 := by
  have h := xor_step a b 0
  rw [Nat.pow_zero, Nat.mod_one, Nat.div_one, Nat.div_one] at h
  simp only [Nat.zero_add, Nat.pow_one] at h
  rw [h]
  split <;> omega
theorem half_xor (a b : Nat) : half (a ^^^ b) = half a ^^^ half b := by
  unfold half
  rw [xor_par, xor_half]
  have ha := Nat.mod_two_eq_zero_or_one a
  have hb := Nat.mod_two_eq_zero_or_one b
  rcases ha with ha | ha <;> rcases hb with hb | hb <;> simp only [ha, hb]
  · simp
  · simp [Nat.xor_assoc]
  · simp only [if_true, Nat.zero_ne_one, if_false]
    rw [Nat.xor_assoc, Nat.xor_assoc, Nat.xor_comm (b / 2)]
  · have : ∀ x y p : Nat, (x ^^^ p) ^^^ (y ^^^ p) = x ^^^ y := fun x y p => by
      rw [Nat.xor_comm y p, ← Nat.xor_assoc, Nat.xor_assoc x p p, Nat.xor_self, Nat.xor_zero]
    simp [this]
theorem halves_xor (k a b : Nat) : halves k (a ^^^ b) = halves k a ^^^ halves k b := by
  induction k with
  | zero => rfl
  | succ k ih => rw [halves_succ, halves_succ, halves_succ, ih, half_xor]
theorem half_even (n : Nat) : half (2 * n) = n := by unfold half; rw [if_neg (by omega)]; omega
theorem halves_even (k : Nat) : ∀ n, halves k (2 ^ k * n) = n := by
  induction k with
  | zero => intro n; simp [halves]
  | succ k ih => intro n; rw [halves_succ, show 2 ^ (k + 1) * n = 2 ^ k * (2 * n) by rw [Nat.pow_succ]; ac_rfl, ih, half_even]
theorem split_byte (x : Nat) : x = (256 * (x / 256)) ^^^ (x % 256) := by
  apply Nat.eq_of_testBit_eq
  intro i
  have h := Nat.testBit_two_pow_mul_add (x / 256) (b := x % 256) (i := 8) (by show _ < 256; omega) i
  have e : 2 ^ 8 * (x / 256) + x % 256 = x := by omega
  rw [e] at h
  have h2 := Nat.testBit_two_pow_mul_add (x / 256) (b := 0) (i := 8) (by decide) i
  rw [show 2 ^ 8 * (x / 256) + 0 = 256 * (x / 256) from rfl] at h2
  rw [Nat.testBit_xor, h, h2]
  by_cases hi : i < 8
  · simp [hi]
  · have : (x % 256).testBit i = false := Nat.testBit_lt_two_pow (Nat.lt_of_lt_of_le (show x % 256 < 2 ^ 8 by show _ < 256; omega) (Nat.pow_le_pow_right (by decide) (by omega)))
    simp [hi, this]
/-- Eight rounds, and one step of the table. -/
theorem halves_byte (x : Nat) : halves 8 x = (x / 256) ^^^ entry (x % 256) := by
  conv => lhs; rw [split_byte x]
  rw [halves_xor, show 256 * (x / 256) = 2 ^ 8 * (x / 256) from rfl, halves_even]
  rfl
theorem step_entry (r : Nat) (b : UInt8) : stepT entN r b = halves 8 (r ^^^ b.toNat) := by
  have hb := b.toNat_lt
  rw [halves_byte]
  have e1 : (r ^^^ b.toNat) / 256 = r / 256 := by
    have := Nat.xor_div_two_pow (a := r) (b := b.toNat) (n := 8)
    rw [show (2 : Nat) ^ 8 = 256 from rfl] at this
    rw [this, Nat.div_eq_of_lt hb, Nat.xor_zero]
  have e2 : (r ^^^ b.toNat) % 256 = b.toNat ^^^ (r % 256) := by
    have := Nat.xor_mod_two_pow (a := r) (b := b.toNat) (n := 8)
    rw [show (2 : Nat) ^ 8 = 256 from rfl] at this
    rw [this, Nat.mod_eq_of_lt hb, Nat.xor_comm]
  rw [e1, e2]
  unfold stepT
  have hl : b.toNat ^^^ (r % 256) < 256 := Nat.xor_lt_two_pow (n := 8) hb (by show _ < 256; omega)
  rw [List.getD_eq_getElem?_getD, entN_get _ hl]
  rfl
theorem round_same (N C : Nat) (h : N % 2 = C % 2) : (N / 2) ^^^ (C / 2) = half (N ^^^ C) := by
  unfold half
  rw [xor_par, xor_half, if_neg (by omega)]
theorem round_odd (N C : Nat) (h : ¬ N % 2 = C % 2) : ((N / 2) ^^^ 3988292384) ^^^ (C / 2) = half (N ^^^ C) := by
  unfold half
  rw [xor_par, xor_half, if_pos (by omega), Nat.xor_assoc, Nat.xor_comm 3988292384, Nat.xor_assoc]
set_option maxRecDepth 100000 in
theorem refSum (s : ByteArray) (w : World) (hs : s.size ≤ maxLen) :
    Calls Tryd.prog 40 #[.string s] w fun e w' => e = .returned (.int .u32 (moreT entN 0 s.data.toList)) ∧ w = w' := by
  unfold maxLen at hs
  go_enter Tryd.func40, Tryd.ntmps40
  go_wp2_with fail
  go_loopw [3, 4] (fun r c wr => ∃ k : Nat, k ≤ s.size ∧ c = .int .i64 k ∧ r = .int .u32 (runT entN 4294967295 (s.data.toList.take k)) ∧ wr = w)
    (fun _ c _ => s.size - (intOf c).toNat)
  case atStart => exact ⟨0, by omega, rfl, rfl, rfl⟩
  case round =>
    obtain ⟨k, hk, rfl, rfl, rfl⟩ := hrel
    have hrl := runT_lt isT_entN (s.data.toList.take k) 4294967295 (by decide)
    by_cases hlt : k < s.size
    · have hki : (k : Int) < (s.size : Int) := by omega
      have HNX := Lib.hid (runT_next entN 4294967295 s k hlt)
      have hse := step_entry (runT entN 4294967295 (s.data.toList.take k)) (s[k]'hlt)
      have HSE := Lib.hid hse
      clear hse
      generalize runT entN 4294967295 (s.data.toList.take k) = r at *
      have hb := (s[k]'hlt).toNat_lt
      have hr3 : r ≤ 4294967295 := by omega
      have HRL := Lib.hid hrl
      have HB := Lib.hid hb
      clear hrl hb
      go_wp2_with fail
      go_loopw [3, 5, 6] (fun x y c wq => ∃ j N C : Nat, j ≤ 8 ∧ c = .int .i64 j ∧ x = .int .u32 N ∧ y = .int .u32 C ∧ N < 4294967296 ∧ C = (s[k]'hlt).toNat / 2 ^ j ∧ N ^^^ C = halves j (r ^^^ (s[k]'hlt).toNat) ∧ wq = wr)
        (fun _ _ c _ => 8 - (intOf c).toNat)
      case atStart => exact ⟨0, r, (s[k]'hlt).toNat, by omega, rfl, rfl, congrArg (Value.int .u32) (by have := HB.out; omega), HRL.out, by rw [Nat.pow_zero, Nat.div_one], rfl, rfl⟩
      case round =>
        obtain ⟨j, N, C, hj, rfl, rfl, rfl, hN, hC, hX, rfl⟩ := hrel
        have hb := HB.out
        have hCl : C < 256 := by rw [hC]; exact Nat.lt_of_le_of_lt (Nat.div_le_self _ _) hb
        by_cases hj8 : j < 8
        · have hji : (j : Int) < 8 := by omega
          have hC2 : C / 2 = (s[k]'hlt).toNat / 2 ^ (j + 1) := by rw [hC, Nat.pow_succ, Nat.div_div_eq_div_mul]
          have hN3 : N ≤ 4294967295 := by omega
          have hxr := fun w => refXor (N / 2) 3988292384 w (by omega) (by decide)
          have hnl := xor_lt32 (N / 2) 3988292384 (by omega) (by decide)
          rw [show ((N / 2 : Nat) : Int) = (N : Int) / 2 by omega] at hxr
          have hN2 : N / 2 < 4294967296 := by omega
          have HXR := Lib.hid hxr
          have HC2 := Lib.hid hC2
          have HXX := Lib.hid hX
          have HNL := Lib.hid hnl
          clear hxr hC2 hX hnl hC hb hN
          by_cases hab : N % 2 = C % 2
          · have hi : (N : Int) % 2 = (C : Int) % 2 := by omega
            have HRS := Lib.hid (round_same N C hab)
            have e1 : ((N : Int) % 2 != (C : Int) % 2) = false := by simp [hi]
            have e2 : ((N : Int) % 2 == (C : Int) % 2) = true := by simp [hi]
            clear hab hi
            go_wp2_with fail
            go_roundw
            case rel => exact ⟨j + 1, N / 2, C / 2, by omega, by go_num, rfl, rfl, hN2, HC2.out, by rw [HRS.out, HXX.out]; rfl, trivial⟩
            case measure => simp [intOf]; omega
          · have hi : ¬ (N : Int) % 2 = (C : Int) % 2 := by omega
            have HRS := Lib.hid (round_odd N C hab)
            have e1 : ((N : Int) % 2 != (C : Int) % 2) = true := by simp [hi]
            have e2 : ((N : Int) % 2 == (C : Int) % 2) = false := by simp [hi]
            clear hab hi
            go_wp2_with fail
            refine (HXR.out _).mono ?_
            rintro e w' ⟨rfl, rfl⟩
            go_wp2
            go_roundw
            case rel => exact ⟨j + 1, (N / 2) ^^^ 3988292384, C / 2, by omega, by go_num, rfl, rfl, HNL.out, HC2.out, by rw [HRS.out, HXX.out]; rfl, trivial⟩
            case measure => simp [intOf]; omega
        · obtain rfl : j = 8 := by omega
          have hC0 : C = 0 := by rw [hC]; exact Nat.div_eq_of_lt hb
          rw [hC0, Nat.xor_zero, ← HSE.out, ← HNX.out] at hX
          have HXX := Lib.hid hX
          clear hX hC hb hC0 hCl hN
          go_wp2_with fail
          go_roundw
          case rel => exact ⟨k + 1, by omega, by go_num, by rw [HXX.out], trivial⟩
          case measure => simp [intOf]; omega
    · obtain rfl : k = s.size := by omega
      have hfull : s.data.toList.take s.size = s.data.toList := List.take_of_length_le (by simp)
      rw [hfull] at hrl ⊢
      have hmore : moreT entN 0 s.data.toList = runT entN 4294967295 s.data.toList ^^^ 4294967295 := by
        unfold moreT; rw [Nat.xor_comm, show 4294967295 ^^^ 0 = 4294967295 from rfl]
      have HMORE := Lib.hid hmore
      have hxr := refXor (runT entN 4294967295 s.data.toList) 4294967295 wr hrl (by decide)
      have HXR := Lib.hid hxr
      generalize runT entN 4294967295 s.data.toList = r at *
      have hr3 : r ≤ 4294967295 := by omega
      clear hfull hmore hxr hrl
      go_wp2_with fail
      refine HXR.out.mono ?_
      rintro e w' ⟨rfl, rfl⟩
      go_wp2
      go_ret
      exact ⟨ret_int (by rw [HMORE.out]), rfl⟩
end Go.Proofs.YtebgcehcnenjiaaDoor
