import Derived.Test.YtalbhgdlabapcaaSums
import Derived.IntWalk
namespace Go.Proofs.Ytalbhgdlabapcaa
open Go.RowKit
/-- What the three bitwise operations come to. -/
def bitOp (op : Int) (A B : Nat) : Nat := if op = 8 then A &&& B else if op = 9 then A ||| B else A ^^^ B
def bitOne (op : Int) (x y : Bool) : Bool := if op = 8 then x && y else if op = 9 then x || y else x ^^ y
theorem bitOp_testBit (op : Int) (A B k : Nat) : (bitOp op A B).testBit k = bitOne op (A.testBit k) (B.testBit k) := by
  unfold bitOp bitOne
  split
  · exact Nat.testBit_and ..
  · split
    · exact Nat.testBit_or ..
    · exact Nat.testBit_xor ..
theorem bitOp_lt (op : Int) {A B : Nat} (hA : A < 18446744073709551616) (hB : B < 18446744073709551616) : bitOp op A B < 18446744073709551616 := by
  unfold bitOp
  split
  · exact and_lt hB
  · split
    · exact or_lt hA hB
    · exact xor_lt hA hB
theorem odd_bit (A k : Nat) : A / 2 ^ k % 2 = (A.testBit k).toNat := by rw [Nat.toNat_testBit]
/-- How the loop's five numbers stand behind k rounds. -/
structure BitAt (op : Int) (A B k m n r u : Nat) : Prop where
  hm : m = A / 2 ^ k
  hn : n = B / 2 ^ k
  hr : r = bitOp op A B % 2 ^ k
  hu : u = 2 ^ k % 18446744073709551616
theorem BitAt.start (op : Int) (A B : Nat) : BitAt op A B 0 A B 0 1 := ⟨by simp, by simp, by simp [Nat.mod_one], by decide⟩
theorem BitAt.unit {op : Int} {A B k m n r u : Nat} (h : BitAt op A B k m n r u) (hk : k < 64) : u = 2 ^ k := by
  rw [h.hu]; exact Nat.mod_eq_of_lt (by rw [two64]; exact Nat.pow_lt_pow_right (by decide) hk)
/-- A round: the halves, and the bit. -/
theorem BitAt.step {op : Int} {A B k m n r u : Nat} (h : BitAt op A B k m n r u) (hk : k < 64) (x y : Bool) (hx : m % 2 = x.toNat) (hy : n % 2 = y.toNat) :
    BitAt op A B (k + 1) (m / 2) (n / 2) (if bitOne op x y then r + u else r) (u * 2 % 18446744073709551616) := by
  have ex : A.testBit k = x := by
    have := odd_bit A k; rw [← h.hm, hx] at this
    cases x <;> cases hh : A.testBit k <;> simp_all
  have ey : B.testBit k = y := by
    have := odd_bit B k; rw [← h.hn, hy] at this
    cases y <;> cases hh : B.testBit k <;> simp_all
  have hu := h.unit hk
  refine ⟨by rw [h.hm, Nat.div_div_eq_div_mul, ← Nat.pow_succ], by rw [h.hn, Nat.div_div_eq_div_mul, ← Nat.pow_succ], ?_, by rw [hu, Nat.pow_succ]⟩
  rw [Nat.mod_pow_succ, odd_bit, bitOp_testBit, ex, ey, ← h.hr, hu]
  cases bitOne op x y <;> simp
theorem BitAt.le {op : Int} {A B k m n r u : Nat} (h : BitAt op A B k m n r u) (hA : A < 18446744073709551616) (hB : B < 18446744073709551616) :
    m < 18446744073709551616 ∧ n < 18446744073709551616 ∧ r < 18446744073709551616 ∧ u < 18446744073709551616 := by
  refine ⟨by rw [h.hm]; exact Nat.lt_of_le_of_lt (Nat.div_le_self _ _) hA, by rw [h.hn]; exact Nat.lt_of_le_of_lt (Nat.div_le_self _ _) hB, ?_, by rw [h.hu]; exact Nat.mod_lt _ (by decide)⟩
  rw [h.hr]; exact Nat.lt_of_le_of_lt (Nat.mod_le _ _) (bitOp_lt op hA hB)
theorem BitAt.done {op : Int} {A B m n r u : Nat} (h : BitAt op A B 64 m n r u) (hA : A < 18446744073709551616) (hB : B < 18446744073709551616) : r = bitOp op A B := by
  rw [h.hr]; exact Nat.mod_eq_of_lt (by rw [← two64]; exact bitOp_lt op hA hB)
theorem doV_bit (op : Int) (A B : Nat) (ho : op = 8 ∨ op = 9 ∨ op = 10) (hA : A < 18446744073709551616) (hB : B < 18446744073709551616) : doV op A B = (bitOp op A B : Nat) := by
  rcases ho with rfl | rfl | rfl
  · rw [and_nat hA hB]; simp [bitOp]
  · rw [or_nat hA hB]; simp [bitOp]
  · rw [xor_nat hA hB]; simp [bitOp]

theorem int_u64 {a b : Int} (h : a = b) : Value.int .u64 a = .int .u64 b := by rw [h]
set_option maxHeartbeats 1000000 in
theorem bits_any (op a b : Int) (w : World) (ho : op = 8 ∨ op = 9 ∨ op = 10) (ha : U64 a) (hb : U64 b) :
    Calls Try.prog 18 #[.int .i64 op, .int .u64 a, .int .u64 b] w fun e w' => e = .returned (.int .u64 (doV op a b)) ∧ w = w' := by
  obtain ⟨A, rfl, hA⟩ := u64_nat ha
  obtain ⟨B, rfl, hB⟩ := u64_nat hb
  have HD := Lib.hid (doV_bit op A B ho hA hB)
  have HA := Lib.hid hA
  have HB := Lib.hid hB
  clear hA hB ha hb
  have parity : ∀ m : Nat, ∃ x : Bool, m % 2 = x.toNat := fun m => by
    rcases Nat.mod_two_eq_zero_or_one m with h | h
    · exact ⟨false, h⟩
    · exact ⟨true, h⟩
  have hd : (op = 8 ∧ (op == 8) = true ∧ (op == 9) = false ∧ (op == 10) = false) ∨ (op = 9 ∧ (op == 8) = false ∧ (op == 9) = true ∧ (op == 10) = false) ∨ (op = 10 ∧ (op == 8) = false ∧ (op == 9) = false ∧ (op == 10) = true) := by
    rcases ho with rfl | rfl | rfl <;> simp
  clear ho
  rcases hd with ⟨h, E8, E9, E10⟩ | ⟨h, E8, E9, E10⟩ | ⟨h, E8, E9, E10⟩
  all_goals
    have HO := Lib.hid h
    clear h
    go_enter Try.func18, Try.ntmps18
    go_wp2
    go_loop [1, 2, 7, 8, 9] (fun a b o u i => ∃ k m n r v : Nat, k ≤ 64 ∧ BitAt op A B k m n r v ∧ i = .int .i64 k ∧ a = .int .u64 m ∧ b = .int .u64 n ∧ o = .int .u64 r ∧ u = .int .u64 v)
      (fun _ _ _ _ i => 64 - (intOf i).toNat)
    case atStart => exact ⟨0, A, B, 0, 1, by omega, BitAt.start _ _ _, rfl, rfl, rfl, rfl, rfl⟩
    case round =>
      obtain ⟨k, m, n, r, v, hk, H, rfl, rfl, rfl, rfl, rfl⟩ := hrel
      obtain ⟨b1, b2, b3, b4⟩ := H.le HA.out HB.out
      by_cases hlt : k < 64
      · obtain ⟨x, hx⟩ := parity m
        obtain ⟨y, hy⟩ := parity n
        have S := H.step hlt x y hx hy
        have s3 := (S.le HA.out HB.out).2.2.1
        have hxi : (m : Int) % 2 = x.toNat := by omega
        have hyi : (n : Int) % 2 = y.toNat := by omega
        clear hx hy parity
        cases x <;> cases y
        all_goals
          simp only [Bool.toNat_true, Bool.toNat_false, Int.natCast_zero, Int.natCast_one] at hxi hyi
          have HS := Lib.hid (show BitAt op A B (k + 1) (m / 2) (n / 2) _ _ from S)
          clear S H
          simp [bitOne, HO.out] at s3
          go_wp2
          go_round
          case rel =>
            have HS2 := HS.out
            simp [bitOne, HO.out] at HS2
            rw [← HO.out] at HS2
            exact ⟨k + 1, m / 2, n / 2, _, v * 2 % 18446744073709551616, by omega, HS2, by go_num, by go_num, by go_num, by go_num, int_u64 (by rw [wrap_u64]; omega)⟩
          case measure => simp [intOf]; omega
      · obtain rfl : k = 64 := by omega
        have hr := Lib.hid (H.done HA.out HB.out)
        clear b1 b2 b3 b4
        go_wp2
        go_ret
        exact ⟨ret_int (by rw [HD.out, hr.out]), rfl⟩

theorem shl_step (a x : Int) (k : Nat) (h : x = IntKind.u64.wrap (a * 2 ^ k)) : IntKind.u64.wrap (x * 2) = IntKind.u64.wrap (a * 2 ^ (k + 1)) := by
  rw [h, wrap_u64, wrap_u64, wrap_u64, mod_mul, Int.mul_assoc, Int.pow_succ]
theorem shr_step (a x : Int) (k : Nat) (h : x = a / 2 ^ k) : x / 2 = a / 2 ^ (k + 1) := by
  rw [h, Int.ediv_ediv_of_nonneg (Int.le_of_lt (pow_pos2 _)), Int.pow_succ]
set_option maxHeartbeats 1000000 in
theorem ref_shl (a b : Int) (w : World) (ha : U64 a) (hb : U64 b) :
    Calls Try.prog 9 #[.int .i64 11, .int .u64 a, .int .u64 b] w fun e w' => e = .returned (.tuple #[.int .u64 (doV 11 a b), .bool (isOp 11)]) ∧ w = w' := by
  have HV := Lib.hid (doV_shl a b)
  have ws := Lib.hid (wrap_in a ha)
  obtain ⟨h1, h2⟩ := ha
  obtain ⟨h3, h4⟩ := hb
  go_enter Try.func9, Try.ntmps9
  go_wp2
  go_loop [1, 8] (fun x i => ∃ (k : Nat) (y : Int), (k : Int) ≤ b % 64 ∧ Hid (y = IntKind.u64.wrap (a * 2 ^ k)) ∧ i = .int .u64 k ∧ x = .int .u64 y ∧ 0 ≤ y ∧ y ≤ 18446744073709551615)
    (fun _ i => (b % 64).toNat - (intOf i).toNat)
  case atStart => exact ⟨0, a, by omega, by rw [Int.pow_zero, Int.mul_one]; exact ws.out.symm, rfl, rfl, h1, h2⟩
  case round =>
    obtain ⟨k, y, hk, hy, rfl, rfl, hy1, hy2⟩ := hrel
    by_cases hlt : (k : Int) < b % 64
    · have e : decide ((k : Int) < b % 64) = true := by simpa using hlt
      go_wp2
      go_round
      case rel => exact ⟨k + 1, _, by omega, Lib.hid (shl_step a y k hy.out), by go_num, rfl, by rw [wrap_u64]; omega, by rw [wrap_u64]; omega⟩
      case measure => simp [intOf]; omega
    · have e : decide ((k : Int) < b % 64) = false := by simpa using hlt
      have hkk : k = (b % 64).toNat := by omega
      have HK := Lib.hid hkk
      clear hkk
      go_wp2
      go_ret2
      exact ⟨ret_pair (by rw [HV.out, hy.out, HK.out]) rfl, rfl⟩
set_option maxHeartbeats 1000000 in
theorem ref_shr (a b : Int) (w : World) (ha : U64 a) (hb : U64 b) :
    Calls Try.prog 9 #[.int .i64 12, .int .u64 a, .int .u64 b] w fun e w' => e = .returned (.tuple #[.int .u64 (doV 12 a b), .bool (isOp 12)]) ∧ w = w' := by
  have HV := Lib.hid (doV_shr a b)
  obtain ⟨h1, h2⟩ := ha
  obtain ⟨h3, h4⟩ := hb
  go_enter Try.func9, Try.ntmps9
  go_wp2
  go_loop [1, 9] (fun x i => ∃ (k : Nat) (y : Int), (k : Int) ≤ b % 64 ∧ Hid (y = a / 2 ^ k) ∧ i = .int .u64 k ∧ x = .int .u64 y ∧ 0 ≤ y ∧ y ≤ 18446744073709551615)
    (fun _ i => (b % 64).toNat - (intOf i).toNat)
  case atStart => exact ⟨0, a, by omega, by rw [Int.pow_zero, Int.ediv_one]; exact Lib.hid rfl, rfl, rfl, h1, h2⟩
  case round =>
    obtain ⟨k, y, hk, hy, rfl, rfl, hy1, hy2⟩ := hrel
    by_cases hlt : (k : Int) < b % 64
    · have e : decide ((k : Int) < b % 64) = true := by simpa using hlt
      go_wp2
      go_round
      case rel => exact ⟨k + 1, _, by omega, Lib.hid (shr_step a y k hy.out), by go_num, rfl, by omega, by omega⟩
      case measure => simp [intOf]; omega
    · have e : decide ((k : Int) < b % 64) = false := by simpa using hlt
      have hkk : k = (b % 64).toNat := by omega
      have HK := Lib.hid hkk
      clear hkk
      go_wp2
      go_ret2
      exact ⟨ret_pair (by rw [HV.out, hy.out, HK.out]) rfl, rfl⟩
set_option maxHeartbeats 1000000 in
theorem ref_plain (op a b : Int) (w : World) (ho : op = 3 ∨ op = 4 ∨ op = 5 ∨ op = 8 ∨ op = 9 ∨ op = 10) (ha : U64 a) (hb : U64 b) :
    Calls Try.prog 9 #[.int .i64 op, .int .u64 a, .int .u64 b] w fun e w' => e = .returned (.tuple #[.int .u64 (doV op a b), .bool (isOp op)]) ∧ w = w' := by
  have HA := Lib.hid ha
  have HB := Lib.hid hb
  obtain ⟨h1, h2⟩ := ha
  obtain ⟨h3, h4⟩ := hb
  rcases ho with rfl | rfl | rfl | rfl | rfl | rfl
  all_goals
    go_enter Try.func9, Try.ntmps9
    go_wp2_with (go_at_call 18; refine (bits_any _ _ _ _ (by omega) HA.out HB.out).mono ?_; rintro e w' ⟨rfl, rfl⟩)
    go_ret2
    exact ⟨ret_pair rfl rfl, rfl⟩
theorem mod_by (a b : Int) (ha : U64 a) (hb : U64 b) (hz : b ≠ 0) : IntKind.u64.wrap (a - IntKind.u64.wrap (a / b * b)) = a % b := by
  have h := Int.mul_ediv_add_emod a b
  rw [Int.mul_comm] at h
  unfold U64 at ha hb
  have h1 : a / b * b ≤ a := Int.ediv_mul_le _ hz
  have h0 : 0 ≤ a / b * b := Int.mul_nonneg (Int.ediv_nonneg ha.1 hb.1) hb.1
  generalize a / b * b = t at *
  rw [wrap_in t (by unfold U64; omega), wrap_in _ (by unfold U64; omega)]
  omega
set_option maxHeartbeats 1000000 in
theorem ref_div (op a b : Int) (w : World) (ho : op = 6 ∨ op = 7) (ha : U64 a) (hb : U64 b) :
    Calls Try.prog 9 #[.int .i64 op, .int .u64 a, .int .u64 b] w fun e w' => e = .returned (.tuple #[.int .u64 (doV op a b), .bool (isOp op)]) ∧ w = w' := by
  have HM := Lib.hid (mod_by a b ha hb)
  obtain ⟨h1, h2⟩ := ha
  obtain ⟨h3, h4⟩ := hb
  by_cases hz : b = 0
  · subst hz
    rcases ho with rfl | rfl
    all_goals
      go_enter Try.func9, Try.ntmps9
      go_wp2
      go_ret2
      exact ⟨ret_pair rfl rfl, rfl⟩
  · have hz1 : (b == 0) = false := by simpa using hz
    have q1 : 0 ≤ a / b := Int.ediv_nonneg h1 h3
    have q2 : a / b ≤ a := Int.ediv_le_self _ h1
    rcases ho with rfl | rfl
    · go_enter Try.func9, Try.ntmps9
      go_wp2
      go_ret2
      exact ⟨ret_pair (by simp [doV, hz]) rfl, rfl⟩
    · go_enter Try.func9, Try.ntmps9
      go_wp2
      go_ret2
      refine ⟨ret_pair ?_ rfl, rfl⟩
      rw [doV_mod, if_neg hz]
      exact HM.out hz
set_option maxHeartbeats 1000000 in
theorem ref_less (op a b : Int) (w : World) (ho : op = 13 ∨ op = 14) (ha : U64 a) (hb : U64 b) :
    Calls Try.prog 9 #[.int .i64 op, .int .u64 a, .int .u64 b] w fun e w' => e = .returned (.tuple #[.int .u64 (doV op a b), .bool (isOp op)]) ∧ w = w' := by
  obtain ⟨h1, h2⟩ := ha
  obtain ⟨h3, h4⟩ := hb
  rcases ho with rfl | rfl
  · by_cases hz : a < b
    all_goals
      go_enter Try.func9, Try.ntmps9
      go_wp2
      go_ret2
      exact ⟨ret_pair (by simp [doV, hz]) rfl, rfl⟩
  · by_cases hz : a = b
    · subst hz
      go_enter Try.func9, Try.ntmps9
      go_wp2
      go_ret2
      exact ⟨ret_pair (by simp [doV]) rfl, rfl⟩
    · have hz1 : (a == b) = false := by simpa using hz
      go_enter Try.func9, Try.ntmps9
      go_wp2
      go_ret2
      exact ⟨ret_pair (by simp [doV, hz]) rfl, rfl⟩

set_option maxHeartbeats 1000000 in
theorem ref_none (op a b : Int) (w : World) (ho : op < 3 ∨ 14 < op) :
    Calls Try.prog 9 #[.int .i64 op, .int .u64 a, .int .u64 b] w fun e w' => e = .returned (.tuple #[.int .u64 (doV op a b), .bool (isOp op)]) ∧ w = w' := by
  have k3 : (op == 3) = false := by simp; omega
  have k4 : (op == 4) = false := by simp; omega
  have k5 : (op == 5) = false := by simp; omega
  have k6 : (op == 6) = false := by simp; omega
  have k7 : (op == 7) = false := by simp; omega
  have k8 : (op == 8) = false := by simp; omega
  have k9 : (op == 9) = false := by simp; omega
  have k10 : (op == 10) = false := by simp; omega
  have k11 : (op == 11) = false := by simp; omega
  have k12 : (op == 12) = false := by simp; omega
  have k13 : (op == 13) = false := by simp; omega
  have k14 : (op == 14) = false := by simp; omega
  have hv : doV op a b = 0 := by
    simp at k3 k4 k5 k6 k7 k8 k9 k10 k11 k12 k13 k14
    simp [doV, *]
  have hi : isOp op = false := by simp [isOp]; omega
  have HV := Lib.hid hv
  have HI := Lib.hid hi
  clear hv hi
  go_enter Try.func9, Try.ntmps9
  go_wp2
  go_ret2
  exact ⟨ret_pair HV.out.symm HI.out.symm, rfl⟩
theorem ref_any (op a b : Int) (w : World) (ha : U64 a) (hb : U64 b) :
    Calls Try.prog 9 #[.int .i64 op, .int .u64 a, .int .u64 b] w fun e w' => e = .returned (.tuple #[.int .u64 (doV op a b), .bool (isOp op)]) ∧ w = w' := by
  by_cases h : op < 3 ∨ 14 < op
  · exact ref_none op a b w h
  · by_cases h1 : op = 6 ∨ op = 7
    · exact ref_div op a b w h1 ha hb
    · by_cases h2 : op = 13 ∨ op = 14
      · exact ref_less op a b w h2 ha hb
      · by_cases h3 : op = 11
        · subst h3; exact ref_shl a b w ha hb
        · by_cases h4 : op = 12
          · subst h4; exact ref_shr a b w ha hb
          · exact ref_plain op a b w (by omega) ha hb
theorem is_any (op : Int) (w : World) : Calls Try.prog 12 #[.int .i64 op] w fun e w' => e = .returned (.bool (isOp op)) ∧ w = w' := by
  have HI : Hid (isOp op = decide (3 ≤ op ∧ op ≤ 14)) := Lib.hid rfl
  by_cases h1 : 3 ≤ op
  · by_cases h2 : op ≤ 14
    all_goals
      go_enter Try.func12, Try.ntmps12
      go_wp2
      go_ret
      exact ⟨ret_bool (by rw [HI.out]; simp; omega), rfl⟩
  · have e : decide (3 ≤ op) = false := by simpa using h1
    go_enter Try.func12, Try.ntmps12
    go_wp2
    go_ret
    exact ⟨ret_bool (by rw [HI.out]; simp; omega), rfl⟩
end Go.Proofs.Ytalbhgdlabapcaa
