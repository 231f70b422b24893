/-
  What a byte does to the register, bit by bit and by a table: plain numbers, no Go in sight.
-/
import Derived.Test.YtbmclhnidemooaaLaws
namespace Go.Proofs.Ytbmclhnidemooaa
open Go.RowKit
set_option linter.unusedVariables false
theorem xor_half (a b : Nat) : (a ^^^ b) / 2 = (a / 2) ^^^ (b / 2) := by
  apply Nat.eq_of_testBit_eq
  intro i
  rw [Nat.testBit_div_two, Nat.testBit_xor, Nat.testBit_xor, Nat.testBit_div_two, Nat.testBit_div_two]
theorem xor_par (a b : Nat) : (a ^^^ b) % 2 = (a % 2 + b % 2) % 2 := by
  have h := xor_step a b 0
  rw [Nat.pow_zero, Nat.mod_one, Nat.div_one, Nat.div_one] at h
  simp only [Nat.zero_add, Nat.pow_one] at h
  rw [h]
  split <;> omega
theorem half_xor (a b : Nat) : half (a ^^^ b) = half a ^^^ half b := by
  unfold half
  rw [xor_par, xor_half]
  have ha := Nat.mod_two_eq_zero_or_one a
  have hb := Nat.mod_two_eq_zero_or_one b
  rcases ha with ha | ha <;> rcases hb with hb | hb <;> simp only [ha, hb]
  · simp
  · simp [Nat.xor_assoc]
  · simp only [if_true, Nat.zero_ne_one, if_false]
    rw [Nat.xor_assoc, Nat.xor_assoc, Nat.xor_comm (b / 2)]
  · have : ∀ x y p : Nat, (x ^^^ p) ^^^ (y ^^^ p) = x ^^^ y := fun x y p => by
      rw [Nat.xor_comm y p, ← Nat.xor_assoc, Nat.xor_assoc x p p, Nat.xor_self, Nat.xor_zero]
    simp [this]
theorem halves_xor (k a b : Nat) : halves k (a ^^^ b) = halves k a ^^^ halves k b := by
  induction k with
  | zero => rfl
  | succ k ih => rw [halves_succ, halves_succ, halves_succ, ih, half_xor]
theorem half_even (n : Nat) : half (2 * n) = n := by unfold half; rw [if_neg (by omega)]; omega
theorem halves_even (k : Nat) : ∀ n, halves k (2 ^ k * n) = n := by
  induction k with
  | zero => intro n; simp [halves]
  | succ k ih => intro n; rw [halves_succ, show 2 ^ (k + 1) * n = 2 ^ k * (2 * n) by rw [Nat.pow_succ]; ac_rfl, ih, half_even]
theorem split_byte (x : Nat) : x = (256 * (x / 256)) ^^^ (x % 256) := by
  apply Nat.eq_of_testBit_eq
  intro i
  have h := Nat.testBit_two_pow_mul_add (x / 256) (b := x % 256) (i := 8) (by show _ < 256; omega) i
  have e : 2 ^ 8 * (x / 256) + x % 256 = x := by omega
  rw [e] at h
  have h2 := Nat.testBit_two_pow_mul_add (x / 256) (b := 0) (i := 8) (by decide) i
  rw [show 2 ^ 8 * (x / 256) + 0 = 256 * (x / 256) from rfl] at h2
  rw [Nat.testBit_xor, h, h2]
  by_cases hi : i < 8
  · simp [hi]
  · have : (x % 256).testBit i = false := Nat.testBit_lt_two_pow (Nat.lt_of_lt_of_le (show x % 256 < 2 ^ 8 by show _ < 256; omega) (Nat.pow_le_pow_right (by decide) (by omega)))
    simp [hi, this]
/-- Eight rounds, and one step of the table. -/
theorem halves_byte (x : Nat) : halves 8 x = (x / 256) ^^^ entry (x % 256) := by
  conv => lhs; rw [split_byte x]
  rw [halves_xor, show 256 * (x / 256) = 2 ^ 8 * (x / 256) from rfl, halves_even]
  rfl
theorem step_entry (r : Nat) (b : UInt8) : stepT entN r b = halves 8 (r ^^^ b.toNat) := by
  have hb := b.toNat_lt
  rw [halves_byte]
  have e1 : (r ^^^ b.toNat) / 256 = r / 256 := by
    have := Nat.xor_div_two_pow (a := r) (b := b.toNat) (n := 8)
    rw [show (2 : Nat) ^ 8 = 256 from rfl] at this
    rw [this, Nat.div_eq_of_lt hb, Nat.xor_zero]
  have e2 : (r ^^^ b.toNat) % 256 = b.toNat ^^^ (r % 256) := by
    have := Nat.xor_mod_two_pow (a := r) (b := b.toNat) (n := 8)
    rw [show (2 : Nat) ^ 8 = 256 from rfl] at this
    rw [this, Nat.mod_eq_of_lt hb, Nat.xor_comm]
  rw [e1, e2]
  unfold stepT
  have hl : b.toNat ^^^ (r % 256) < 256 := Nat.xor_lt_two_pow (n := 8) hb (by show _ < 256; omega)
  rw [List.getD_eq_getElem?_getD, entN_get _ hl]
  rfl
end Go.Proofs.Ytbmclhnidemooaa
