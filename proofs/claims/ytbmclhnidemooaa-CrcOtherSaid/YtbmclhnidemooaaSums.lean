import Derived.Test.YtbmclhnidemooaaLin
namespace Go.Proofs.Ytbmclhnidemooaa
open Go.RowKit
set_option linter.unusedVariables false
theorem round_same (N C : Nat) (h : N % 2 = C % 2) : (N / 2) ^^^ (C / 2) = half (N ^^^ C) := by
  unfold half
  rw [xor_par, xor_half, if_neg (by omega)]
theorem round_odd (N C : Nat) (h : ¬ N % 2 = C % 2) : ((N / 2) ^^^ 3988292384) ^^^ (C / 2) = half (N ^^^ C) := by
  unfold half
  rw [xor_par, xor_half, if_pos (by omega), Nat.xor_assoc, Nat.xor_comm 3988292384, Nat.xor_assoc]
set_option maxRecDepth 100000 in
theorem refSum (s : ByteArray) (w : World) (hs : s.size ≤ maxLen) :
    Calls Try.prog 12 #[.string s] w fun e w' => e = .returned (.int .u32 (moreT entN 0 s.data.toList)) ∧ w = w' := by
  unfold maxLen at hs
  go_enter Try.func12, Try.ntmps12
  go_wp2_with fail
  go_loopw [3, 4] (fun r c wr => ∃ k : Nat, k ≤ s.size ∧ c = .int .i64 k ∧ r = .int .u32 (runT entN 4294967295 (s.data.toList.take k)) ∧ wr = w)
    (fun _ c _ => s.size - (intOf c).toNat)
  case atStart => exact ⟨0, by omega, rfl, rfl, rfl⟩
  case round =>
    obtain ⟨k, hk, rfl, rfl, rfl⟩ := hrel
    have hrl := runT_lt isT_entN (s.data.toList.take k) 4294967295 (by decide)
    by_cases hlt : k < s.size
    · have hki : (k : Int) < (s.size : Int) := by omega
      have HNX := Lib.hid (runT_next entN 4294967295 s k hlt)
      have hse := step_entry (runT entN 4294967295 (s.data.toList.take k)) (s[k]'hlt)
      have HSE := Lib.hid hse
      clear hse
      generalize runT entN 4294967295 (s.data.toList.take k) = r at *
      have hb := (s[k]'hlt).toNat_lt
      have hr3 : r ≤ 4294967295 := by omega
      have HRL := Lib.hid hrl
      have HB := Lib.hid hb
      clear hrl hb
      go_wp2_with fail
      go_loopw [3, 5, 6] (fun x y c wq => ∃ j N C : Nat, j ≤ 8 ∧ c = .int .i64 j ∧ x = .int .u32 N ∧ y = .int .u32 C ∧ N < 4294967296 ∧ C = (s[k]'hlt).toNat / 2 ^ j ∧ N ^^^ C = halves j (r ^^^ (s[k]'hlt).toNat) ∧ wq = wr)
        (fun _ _ c _ => 8 - (intOf c).toNat)
      case atStart => exact ⟨0, r, (s[k]'hlt).toNat, by omega, rfl, rfl, congrArg (Value.int .u32) (by have := HB.out; omega), HRL.out, by rw [Nat.pow_zero, Nat.div_one], rfl, rfl⟩
      case round =>
        obtain ⟨j, N, C, hj, rfl, rfl, rfl, hN, hC, hX, rfl⟩ := hrel
        have hb := HB.out
        have hCl : C < 256 := by rw [hC]; exact Nat.lt_of_le_of_lt (Nat.div_le_self _ _) hb
        by_cases hj8 : j < 8
        · have hji : (j : Int) < 8 := by omega
          have hC2 : C / 2 = (s[k]'hlt).toNat / 2 ^ (j + 1) := by rw [hC, Nat.pow_succ, Nat.div_div_eq_div_mul]
          have hN3 : N ≤ 4294967295 := by omega
          have hxr := fun w => refXor (N / 2) 3988292384 w (by omega) (by decide)
          have hnl := xor_lt32 (N / 2) 3988292384 (by omega) (by decide)
          rw [show ((N / 2 : Nat) : Int) = (N : Int) / 2 by omega] at hxr
          have hN2 : N / 2 < 4294967296 := by omega
          have HXR := Lib.hid hxr
          have HC2 := Lib.hid hC2
          have HXX := Lib.hid hX
          have HNL := Lib.hid hnl
          clear hxr hC2 hX hnl hC hb hN
          by_cases hab : N % 2 = C % 2
          · have hi : (N : Int) % 2 = (C : Int) % 2 := by omega
            have HRS := Lib.hid (round_same N C hab)
            have e1 : ((N : Int) % 2 != (C : Int) % 2) = false := by simp [hi]
            have e2 : ((N : Int) % 2 == (C : Int) % 2) = true := by simp [hi]
            clear hab hi
            go_wp2_with fail
            go_roundw
            case rel => exact ⟨j + 1, N / 2, C / 2, by omega, by go_num, rfl, rfl, hN2, HC2.out, by rw [HRS.out, HXX.out]; rfl, trivial⟩
            case measure => simp [intOf]; omega
          · have hi : ¬ (N : Int) % 2 = (C : Int) % 2 := by omega
            have HRS := Lib.hid (round_odd N C hab)
            have e1 : ((N : Int) % 2 != (C : Int) % 2) = true := by simp [hi]
            have e2 : ((N : Int) % 2 == (C : Int) % 2) = false := by simp [hi]
            clear hab hi
            go_wp2_with fail
            refine (HXR.out _).mono ?_
            rintro e w' ⟨rfl, rfl⟩
            go_wp2
            go_roundw
            case rel => exact ⟨j + 1, (N / 2) ^^^ 3988292384, C / 2, by omega, by go_num, rfl, rfl, HNL.out, HC2.out, by rw [HRS.out, HXX.out]; rfl, trivial⟩
            case measure => simp [intOf]; omega
        · obtain rfl : j = 8 := by omega
          have hC0 : C = 0 := by rw [hC]; exact Nat.div_eq_of_lt hb
          rw [hC0, Nat.xor_zero, ← HSE.out, ← HNX.out] at hX
          have HXX := Lib.hid hX
          clear hX hC hb hC0 hCl hN
          go_wp2_with fail
          go_roundw
          case rel => exact ⟨k + 1, by omega, by go_num, by rw [HXX.out], trivial⟩
          case measure => simp [intOf]; omega
    · obtain rfl : k = s.size := by omega
      have hfull : s.data.toList.take s.size = s.data.toList := List.take_of_length_le (by simp)
      rw [hfull] at hrl ⊢
      have hmore : moreT entN 0 s.data.toList = runT entN 4294967295 s.data.toList ^^^ 4294967295 := by
        unfold moreT; rw [Nat.xor_comm, show 4294967295 ^^^ 0 = 4294967295 from rfl]
      have HMORE := Lib.hid hmore
      have hxr := refXor (runT entN 4294967295 s.data.toList) 4294967295 wr hrl (by decide)
      have HXR := Lib.hid hxr
      generalize runT entN 4294967295 s.data.toList = r at *
      have hr3 : r ≤ 4294967295 := by omega
      clear hfull hmore hxr hrl
      go_wp2_with fail
      refine HXR.out.mono ?_
      rintro e w' ⟨rfl, rfl⟩
      go_wp2
      go_ret
      exact ⟨ret_int (by rw [HMORE.out]), rfl⟩
set_option maxRecDepth 100000 in
theorem sums_walk (s : ByteArray) (w : World) (w0 : s.size ≤ maxLen) :
    Calls Try.prog 4 #[.string s] w fun e w' => e = .returned (.bool true) ∧ Below w.heap.size w w' := by
  by_cases hs : 2000 < s.size
  · have e0 : decide ((2000 : Int) < (s.size : Int)) = true := by simp; omega
    have hbel := Below.refl w.heap.size w
    go_enter Try.func4, Try.ntmps4
    go_wp2_with (go_at_call 9; refine (awake_any _).mono ?_; rintro e w1 ⟨rfl, hb⟩; have hbel := then_ hbel hb; clear hb)
    go_ret
    exact ⟨rfl, hbel⟩
  have e0 : decide ((2000 : Int) < (s.size : Int)) = false := by simp; omega
  have HT := Lib.hid crcTable2
  have HS := Lib.hid (fun w => crcSum entN s w isT_entN w0)
  have HR := Lib.hid (fun w => refSum s w w0)
  have hml : moreT entN 0 s.data.toList < 4294967296 := xor_lt32 _ _ (by decide) (runT_lt isT_entN _ _ (by decide))
  generalize moreT entN 0 s.data.toList = R at *
  have hR3 : R ≤ 4294967295 := by omega
  generalize (cellsU entN).toArray = T at *
  clear hml
  go_enter Try.func4, Try.ntmps4
  go_wp2_with fail
  refine (awake_any w).mono ?_
  rintro e w1 ⟨rfl, k1⟩
  go_wp2_with fail
  refine (HT.out w1).mono ?_
  rintro e w2 ⟨rfl, k2⟩
  have k2 := then_ k1 k2
  go_wp2_with fail
  refine (HS.out w2).mono ?_
  rintro e w3 ⟨rfl, k3⟩
  have k3 := then_ k2 k3
  go_wp2_with fail
  refine (HR.out w3).mono ?_
  rintro e w' ⟨rfl, rfl⟩
  go_wp2
  go_ret
  exact ⟨rfl, k3⟩
end Go.Proofs.Ytbmclhnidemooaa
