import Derived.Test.YtalbhgdlabapcaaShifts
import Derived.Laws.Bits64
import Derived.Laws.Bits64b
namespace Go.Proofs.Ytalbhgdlabapcaa
open Go.RowKit
theorem doV_and (a b : Int) : doV 8 a b = bits BinOp.and IntKind.u64 a b := by simp [doV]
theorem doV_or (a b : Int) : doV 9 a b = bits BinOp.or IntKind.u64 a b := by simp [doV]
theorem doV_xor (a b : Int) : doV 10 a b = bits BinOp.xor IntKind.u64 a b := by simp [doV]
theorem doV_sub (a b : Int) : doV 4 a b = IntKind.u64.wrap (a - b) := by simp [doV]
/-- Numbers of 64 bits as naturals. -/
theorem u64_nat {a : Int} (h : U64 a) : ∃ n : Nat, a = n ∧ n < 18446744073709551616 := by
  unfold U64 at h; exact ⟨a.toNat, by omega, by omega⟩
theorem u64_cast {n : Nat} (h : n < 18446744073709551616) : U64 (n : Int) := by unfold U64; omega
theorem two64 : (18446744073709551616 : Nat) = 2 ^ 64 := rfl
theorem and_nat {a b : Nat} (ha : a < 18446744073709551616) (hb : b < 18446744073709551616) : doV 8 a b = ((a &&& b : Nat) : Int) := by rw [doV_and, bits_and_u64_nat _ _ ha hb]
theorem or_nat {a b : Nat} (ha : a < 18446744073709551616) (hb : b < 18446744073709551616) : doV 9 a b = ((a ||| b : Nat) : Int) := by rw [doV_or, bits_or_u64_nat _ _ ha hb]
theorem xor_nat {a b : Nat} (ha : a < 18446744073709551616) (hb : b < 18446744073709551616) : doV 10 a b = ((a ^^^ b : Nat) : Int) := by rw [doV_xor, bits_xor_u64_nat _ _ ha hb]
theorem and_lt {a b : Nat} (hb : b < 18446744073709551616) : a &&& b < 18446744073709551616 := by rw [two64] at *; exact Nat.and_lt_two_pow _ hb
theorem or_lt {a b : Nat} (ha : a < 18446744073709551616) (hb : b < 18446744073709551616) : a ||| b < 18446744073709551616 := by rw [two64] at *; exact Nat.or_lt_two_pow ha hb
theorem xor_lt {a b : Nat} (ha : a < 18446744073709551616) (hb : b < 18446744073709551616) : a ^^^ b < 18446744073709551616 := by rw [two64] at *; exact Nat.xor_lt_two_pow ha hb
theorem doV_u64 (op a b : Int) (ha : U64 a) (hb : U64 b) : U64 (doV op a b) := by
  obtain ⟨m, rfl, hm⟩ := u64_nat ha
  obtain ⟨n, rfl, hn⟩ := u64_nat hb
  by_cases h : op = 3 ∨ op = 4 ∨ op = 5 ∨ op = 6 ∨ op = 7 ∨ op = 8 ∨ op = 9 ∨ op = 10 ∨ op = 11 ∨ op = 12
  · rcases h with rfl | rfl | rfl | rfl | rfl | rfl | rfl | rfl | rfl | rfl
    · exact doV_in _ _ _ ha hb (by omega)
    · rw [doV_sub, wrap_u64]; unfold U64; omega
    · exact doV_in _ _ _ ha hb (by omega)
    · exact doV_in _ _ _ ha hb (by omega)
    · exact doV_in _ _ _ ha hb (by omega)
    · rw [and_nat hm hn]; exact u64_cast (and_lt hn)
    · rw [or_nat hm hn]; exact u64_cast (or_lt hm hn)
    · rw [xor_nat hm hn]; exact u64_cast (xor_lt hm hn)
    · exact doV_in2 _ _ _ ha (by omega)
    · exact doV_in2 _ _ _ ha (by omega)
  · have : doV op m n = 0 ∨ doV op m n = 1 := by
      unfold doV
      repeat' split
      all_goals omega
    unfold U64; omega
set_option maxHeartbeats 400000 in
theorem not_any (n : Int) (w : World) (hn : U64 n) : Calls Try.prog 14 #[.int .u64 n] w fun e w' => e = .returned (.int .u64 (doV 10 n 18446744073709551615)) ∧ w = w' := by
  go_enter Try.func14, Try.ntmps14
  go_wp2_with (first
      | (go_at_call 13; refine (lawdo_any _ _ _ _ (by assumption) (u64_lit _ (by omega))).mono ?_; rintro e w' ⟨rfl, rfl⟩))
  go_ret
  exact ⟨rfl, rfl⟩
/-! The laws, no Go in sight. -/
theorem law1 (a b : Int) : (doV 3 a b == doV 3 b a) = true := by rw [doV_add, doV_add, Int.add_comm]; simp
theorem law2 (a b : Int) : (doV 5 a b == doV 5 b a) = true := by rw [doV_mul, doV_mul, Int.mul_comm]; simp
theorem law3 (a b c : Int) : (doV 5 (doV 3 a b) c == doV 3 (doV 5 a c) (doV 5 b c)) = true := by
  rw [doV_mul, doV_add, doV_add, doV_mul, doV_mul, wrap_u64, wrap_u64, wrap_u64, wrap_u64, wrap_u64, mod_mul, ← Int.add_emod, Int.add_mul]; simp
theorem law4 (a b : Int) (ha : U64 a) : (doV 4 (doV 3 a b) b == a) = true := by
  rw [doV_sub, doV_add, wrap_u64, wrap_u64]; unfold U64 at ha
  have : ((a + b) % 18446744073709551616 - b) % 18446744073709551616 = a := by omega
  rw [this]; simp
theorem law6 (a b : Int) (ha : U64 a) (hb : U64 b) : (doV 10 (doV 10 a b) b == a) = true := by
  obtain ⟨m, rfl, hm⟩ := u64_nat ha
  obtain ⟨n, rfl, hn⟩ := u64_nat hb
  rw [xor_nat hm hn, xor_nat (xor_lt hm hn) hn, Nat.xor_assoc, Nat.xor_self, Nat.xor_zero]; simp
theorem law5 (a b : Int) (ha : U64 a) (hb : U64 b) : (doV 10 (doV 8 a b) 18446744073709551615 == doV 9 (doV 10 a 18446744073709551615) (doV 10 b 18446744073709551615)) = true := by
  obtain ⟨m, rfl, hm⟩ := u64_nat ha
  obtain ⟨n, rfl, hn⟩ := u64_nat hb
  obtain ⟨t, ht, hl⟩ : ∃ t : Nat, (18446744073709551615 : Int) = t ∧ t = 2 ^ 64 - 1 := ⟨2 ^ 64 - 1, by decide, rfl⟩
  have htl : t < 18446744073709551616 := by omega
  rw [ht, and_nat hm hn, xor_nat (and_lt hn) htl, xor_nat hm htl, xor_nat hn htl, or_nat (xor_lt hm htl) (xor_lt hn htl)]
  have : (m &&& n) ^^^ t = (m ^^^ t) ||| (n ^^^ t) := by
    apply Nat.eq_of_testBit_eq
    intro i
    rw [hl]
    simp only [Nat.testBit_xor, Nat.testBit_and, Nat.testBit_or, Nat.testBit_two_pow_sub_one]
    by_cases hi : i < 64
    · simp only [hi, decide_true]; cases m.testBit i <;> cases n.testBit i <;> rfl
    · have h1 : m.testBit i = false := Nat.testBit_lt_two_pow (Nat.lt_of_lt_of_le (two64 ▸ hm) (Nat.pow_le_pow_right (by decide) (by omega)))
      have h2 : n.testBit i = false := Nat.testBit_lt_two_pow (Nat.lt_of_lt_of_le (two64 ▸ hn) (Nat.pow_le_pow_right (by decide) (by omega)))
      simp [h1, h2, hi]
  rw [this]; simp
set_option maxHeartbeats 400000 in
theorem laws_walk (a b c : Int) (w : World) (w0 : (Lit.int .u64 a).wf = true) (w1 : (Lit.int .u64 b).wf = true) (w2 : (Lit.int .u64 c).wf = true) :
    Calls Try.prog 4 #[.int .u64 a, .int .u64 b, .int .u64 c] w fun e w' => e = .returned (.bool true) ∧ Below w.heap.size w w' := by
  have ha := u64_of _ w0
  have hb := u64_of _ w1
  have hc := u64_of _ w2
  clear w0 w1 w2
  have l1 := law1 a b
  have l2 := law2 a b
  have l3 := law3 a b c
  have l4 := law4 a b ha
  have l5 := law5 a b ha hb
  have l6 := law6 a b ha hb
  go_enter Try.func4, Try.ntmps4
  go_wp2_with (first
      | (go_at_call 13; refine (lawdo_any _ _ _ _ (by repeat (first | assumption | exact u64_lit _ (by omega) | apply doV_u64)) (by repeat (first | assumption | exact u64_lit _ (by omega) | apply doV_u64))).mono ?_; rintro e w' ⟨rfl, rfl⟩)
      | (go_at_call 14; refine (not_any _ _ (by repeat (first | assumption | exact u64_lit _ (by omega) | apply doV_u64))).mono ?_; rintro e w' ⟨rfl, rfl⟩)
      | (go_at_call 11; refine (awake_any _).mono ?_; rintro e w1 ⟨rfl, hbel⟩))
  go_ret
  exact ⟨rfl, hbel⟩
end Go.Proofs.Ytalbhgdlabapcaa
