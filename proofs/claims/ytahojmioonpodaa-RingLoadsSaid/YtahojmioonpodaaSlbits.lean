import Derived.Test.YtahojmioonpodaaSlots3
namespace Go.Proofs.Ytahojmioonpodaa
open Go.RowKit
set_option linter.unusedVariables false
set_option linter.unusedSimpArgs false
theorem and_bits : ∀ n : Nat, n < 256 → ∀ j : Nat, j < 8 → bits .and .i64 (n : Int) (2 ^ j) = (if (n : Int) / 2 ^ j % 2 = 1 then 2 ^ j else 0) ∧ ((n : Int) / 2 ^ j % 2 = 1 → bits .andNot .i64 (n : Int) (2 ^ j) = (n : Int) - 2 ^ j) := by decide +kernel
theorem and_bit {l : Int} {j : Nat} (h0 : 0 ≤ l) (h1 : l ≤ 255) (hj : j < 8) : (bits .and .i64 l (2 ^ j) == 0) = !hasBit l j := by
  obtain ⟨n, rfl⟩ : ∃ n : Nat, l = n := ⟨l.toNat, by omega⟩
  have hp : (0 : Int) < 2 ^ j := Int.pow_pos (by decide)
  have := (and_bits n (by omega) j hj).1
  rw [this]
  unfold hasBit
  by_cases h : (n : Int) / 2 ^ j % 2 = 1
  · rw [if_pos h, decide_eq_true h, beq_eq_false_iff_ne.2 (by omega)]; rfl
  · rw [if_neg h, decide_eq_false h]; rfl
theorem andNot_bit {l : Int} {j : Nat} (h0 : 0 ≤ l) (h1 : l ≤ 255) (hj : j < 8) (hb : hasBit l j = true) : bits .andNot .i64 l (2 ^ j) = l - 2 ^ j := by
  obtain ⟨n, rfl⟩ : ∃ n : Nat, l = n := ⟨l.toNat, by omega⟩
  exact (and_bits n (by omega) j hj).2 (of_decide_eq_true hb)
end Go.Proofs.Ytahojmioonpodaa
