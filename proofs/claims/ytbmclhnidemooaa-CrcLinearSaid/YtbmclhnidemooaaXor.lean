import Derived.Test.YtbmclhnidemooaaAwake
namespace Go.Proofs.Ytbmclhnidemooaa
open Go.RowKit
set_option linter.unusedVariables false
theorem bit_toNat (x k : Nat) : x / 2 ^ k % 2 = (x.testBit k).toNat := by rw [Nat.toNat_testBit]
theorem xor_step (a b k : Nat) : (a ^^^ b) % 2 ^ (k + 1) = (a ^^^ b) % 2 ^ k + (if a / 2 ^ k % 2 = b / 2 ^ k % 2 then 0 else 2 ^ k) := by
  rw [Nat.mod_pow_succ, bit_toNat, bit_toNat, bit_toNat, Nat.testBit_xor]
  cases a.testBit k <;> cases b.testBit k <;> simp
theorem pow_le32 (k : Nat) (h : k ≤ 31) : 2 ^ k ≤ 2147483648 := Nat.pow_le_pow_right (n := 2) (by decide) h
theorem refXor (a b : Nat) (w : World) (ha : a < 4294967296) (hb : b < 4294967296) :
    Calls Try.prog 15 #[.int .u32 a, .int .u32 b] w fun e w' => e = .returned (.int .u32 (a ^^^ b : Nat)) ∧ w = w' := by
  have hxl := xor_lt32 a b ha hb
  have HA := Lib.hid ha
  have HB := Lib.hid hb
  have HX := Lib.hid hxl
  clear ha hb hxl
  go_enter Try.func15, Try.ntmps15
  go_wp2_with fail
  go_loopw [0, 1, 5, 6, 7] (fun x y o u c wr => ∃ k : Nat, k ≤ 32 ∧ c = .int .i64 k ∧ x = .int .u32 (a / 2 ^ k : Nat) ∧ y = .int .u32 (b / 2 ^ k : Nat) ∧ o = .int .u32 ((a ^^^ b) % 2 ^ k : Nat) ∧ u = .int .u32 (2 ^ k % 4294967296 : Nat) ∧ wr = w)
    (fun _ _ _ _ c _ => 32 - (intOf c).toNat)
  case atStart => exact ⟨0, by omega, rfl, by rw [Nat.pow_zero, Nat.div_one], by rw [Nat.pow_zero, Nat.div_one], by rw [Nat.pow_zero, Nat.mod_one]; rfl, rfl, rfl⟩
  case round =>
    obtain ⟨k, hk, rfl, rfl, rfl, rfl, rfl, rfl⟩ := hrel
    by_cases hlt : k < 32
    · have hki : (k : Int) < 32 := by omega
      have hp := pow_le32 k (by omega)
      have hu : 2 ^ k % 4294967296 = 2 ^ k := Nat.mod_eq_of_lt (by omega)
      have hu2 : 2 ^ (k + 1) % 4294967296 = 2 ^ k * 2 % 4294967296 := by rw [Nat.pow_succ]
      have hst := xor_step a b k
      have hda : a / 2 ^ (k + 1) = a / 2 ^ k / 2 := by rw [Nat.pow_succ, Nat.div_div_eq_div_mul]
      have hdb : b / 2 ^ (k + 1) = b / 2 ^ k / 2 := by rw [Nat.pow_succ, Nat.div_div_eq_div_mul]
      have hol : (a ^^^ b) % 2 ^ k < 2 ^ k := Nat.mod_lt _ (Nat.two_pow_pos k)
      have hAl : a / 2 ^ k ≤ a := Nat.div_le_self _ _
      have hBl : b / 2 ^ k ≤ b := Nat.div_le_self _ _
      have ha1 := HA.out
      have hb1 := HB.out
      rw [hu]
      have HU2 := Lib.hid hu2
      have HST := Lib.hid hst
      have HDA := Lib.hid hda
      have HDB := Lib.hid hdb
      generalize a / 2 ^ k = A at *
      generalize b / 2 ^ k = B at *
      generalize (a ^^^ b) % 2 ^ k = O at *
      generalize 2 ^ k = U at *
      have hA3 : A ≤ 4294967295 := by omega
      have hB3 : B ≤ 4294967295 := by omega
      have hU3 : U ≤ 2147483648 := hp
      have hO3 : O ≤ 2147483647 := by omega
      clear hu hu2 hst hda hdb hol hAl hBl ha1 hb1 hp
      by_cases hab : A % 2 = B % 2
      · have hi : (A : Int) % 2 = (B : Int) % 2 := by omega
        have e1 : ((A : Int) % 2 != (B : Int) % 2) = false := by simp [hi]
        have e2 : ((A : Int) % 2 == (B : Int) % 2) = true := by simp [hi]
        have HAB := Lib.hid hab
        clear hab hi
        go_wp2_with fail
        go_roundw
        case rel => exact ⟨k + 1, by omega, by go_num, by rw [HDA.out]; rfl, by rw [HDB.out]; rfl, by rw [HST.out, if_pos HAB.out, Nat.add_zero], by rw [HU2.out]; rfl, trivial⟩
        case measure => simp [intOf]; omega
      · have hi : ¬ (A : Int) % 2 = (B : Int) % 2 := by omega
        have e1 : ((A : Int) % 2 != (B : Int) % 2) = true := by simp [hi]
        have e2 : ((A : Int) % 2 == (B : Int) % 2) = false := by simp [hi]
        have HAB := Lib.hid hab
        clear hab hi
        go_wp2_with fail
        go_roundw
        case rel => exact ⟨k + 1, by omega, by go_num, by rw [HDA.out]; rfl, by rw [HDB.out]; rfl, by rw [HST.out, if_neg HAB.out]; rfl, by rw [HU2.out]; rfl, trivial⟩
        case measure => simp [intOf]; omega
    · obtain rfl : k = 32 := by omega
      have hfull : (a ^^^ b) % 2 ^ 32 = a ^^^ b := Nat.mod_eq_of_lt HX.out
      rw [hfull]
      have h3 : a ^^^ b ≤ 4294967295 := by have := HX.out; omega
      obtain ⟨R, hR⟩ : ∃ R, R = a ^^^ b := ⟨_, rfl⟩
      rw [← hR] at h3 ⊢
      have HR := Lib.hid hR
      clear hfull hR
      generalize a / 2 ^ 32 = A at *
      generalize b / 2 ^ 32 = B at *
      generalize 2 ^ 32 % 4294967296 = U at *
      go_wp2
      go_ret
      exact ⟨ret_int (by rw [HR.out]), rfl⟩
theorem halves_succ (k n : Nat) : halves (k + 1) n = half (halves k n) := rfl
set_option maxRecDepth 100000 in
theorem refEntry (n : Nat) (w : World) (hn : n < 4294967296) :
    Calls Try.prog 10 #[.int .u32 n] w fun e w' => e = .returned (.int .u32 (entry n)) ∧ w = w' := by
  have HN := Lib.hid hn
  clear hn
  go_enter Try.func10, Try.ntmps10
  go_wp2_with fail
  go_loopw [0, 3] (fun x c wr => ∃ k : Nat, k ≤ 8 ∧ c = .int .i64 k ∧ x = .int .u32 (halves k n) ∧ wr = w)
    (fun _ c _ => 8 - (intOf c).toNat)
  case atStart => exact ⟨0, by omega, rfl, rfl, rfl⟩
  case round =>
    obtain ⟨k, hk, rfl, rfl, rfl⟩ := hrel
    have hm := halves_lt k n HN.out
    by_cases hlt : k < 8
    · have hki : (k : Int) < 8 := by omega
      have HNX := Lib.hid (halves_succ k n)
      generalize halves k n = m at *
      have hm3 : m ≤ 4294967295 := by omega
      have hx := refXor (m / 2) 3988292384 wr (by omega) (by decide)
      rw [show ((m / 2 : Nat) : Int) = (m : Int) / 2 by omega] at hx
      by_cases hodd : m % 2 = 1
      · have hh : half m = (m / 2) ^^^ 3988292384 := by unfold half; rw [if_pos hodd]
        rw [← hh] at hx
        have HX := Lib.hid hx
        have e1 : ((m : Int) % 2 == 1) = true := by rw [beq_iff_eq]; omega
        clear hm hx hh hodd
        go_wp2_with fail
        refine HX.out.mono ?_
        rintro e w' ⟨rfl, rfl⟩
        go_wp2
        go_roundw
        case rel => exact ⟨k + 1, by omega, by go_num, by rw [HNX.out], trivial⟩
        case measure => simp [intOf]; omega
      · have hh : half m = m / 2 := by unfold half; rw [if_neg hodd]
        have HH := Lib.hid hh
        have e1 : ((m : Int) % 2 == 1) = false := by rw [beq_eq_false_iff_ne]; omega
        clear hm hx hh hodd
        go_wp2_with fail
        go_roundw
        case rel => exact ⟨k + 1, by omega, by go_num, by rw [HNX.out, HH.out]; rfl, trivial⟩
        case measure => simp [intOf]; omega
    · obtain rfl : k = 8 := by omega
      have he : entry n = halves 8 n := rfl
      rw [← he] at hm ⊢
      clear he
      obtain ⟨R, hR⟩ : ∃ R, R = entry n := ⟨_, rfl⟩
      rw [← hR] at hm ⊢
      have h3 : R ≤ 4294967295 := by omega
      have HR := Lib.hid hR
      clear hR hm
      go_wp2
      go_ret
      exact ⟨ret_int (by rw [HR.out]), rfl⟩
end Go.Proofs.Ytbmclhnidemooaa
