/-
  Numbers with a sign as numbers without one, and back: what delta's Zig and Zag do.
-/
import Derived.Test.YtdlbgmkigfbfbaaSame
import Derived.Laws.Bits64
import Derived.Laws.Bits64b
import Derived.Laws.DeepNot64
namespace Go.Proofs.Ytdlbgmkigfbfbaa
open Go.RowKit
set_option linter.unusedVariables false
def zig (n : Int) : Nat := if 0 ≤ n then (2 * n).toNat else (-2 * n - 1).toNat
def zag (u : Nat) : Int := if u % 2 = 0 then ((u / 2 : Nat) : Int) else -((u / 2 : Nat) : Int) - 1
theorem zag_zig (n : Int) : zag (zig n) = n := by unfold zag zig; split <;> split <;> omega
theorem zig_zag (u : Nat) : zig (zag u) = u := by unfold zag zig; split <;> split <;> omega
theorem zig_lt (n : Int) (h1 : -9223372036854775808 ≤ n) (h2 : n ≤ 9223372036854775807) : zig n < M64 := by unfold zig M64; split <;> omega
theorem zag_in (u : Nat) (h : u < M64) : -9223372036854775808 ≤ zag u ∧ zag u ≤ 9223372036854775807 := by unfold M64 at h; unfold zag; split <;> omega
theorem xor_ones (a : Nat) (ha : a < 18446744073709551616) : a ^^^ 18446744073709551615 = 18446744073709551615 - a := by
  have h := Nat.eq_of_testBit_eq (x := a ^^^ (2 ^ 64 - 1)) (y := 2 ^ 64 - (a + 1)) (by
    intro i
    rw [Nat.testBit_xor, Nat.testBit_two_pow_sub_one, Nat.testBit_two_pow_sub_succ (by exact ha)]
    by_cases hi : i < 64
    · simp [hi]
    · have : a.testBit i = false := Nat.testBit_lt_two_pow (Nat.lt_of_lt_of_le ha (Nat.pow_le_pow_right (n := 2) (by decide) (by omega : 64 ≤ i)))
      simp [hi, this])
  have e : (2 : Nat) ^ 64 = 18446744073709551616 := by decide +kernel
  rw [e] at h
  rw [show (18446744073709551615 : Nat) = 18446744073709551616 - 1 from rfl, h]
  omega
theorem xor_i64_comm (a b : Int) : bits .xor .i64 a b = bits .xor .i64 b a := by
  show IntKind.i64.wrap ((BitVec.ofInt 64 a ^^^ BitVec.ofInt 64 b).toNat : Int) = IntKind.i64.wrap ((BitVec.ofInt 64 b ^^^ BitVec.ofInt 64 a).toNat : Int)
  rw [BitVec.xor_comm]
theorem xor_i64_zero (a : Nat) (h : a < 9223372036854775808) : bits .xor .i64 (a : Int) 0 = a := by
  show IntKind.i64.wrap ((BitVec.ofInt 64 a ^^^ BitVec.ofInt 64 0).toNat : Int) = a
  have e0 : BitVec.ofInt 64 0 = 0#64 := rfl
  rw [e0, BitVec.xor_zero, BitVec.ofInt_natCast, BitVec.toNat_ofNat, IntKind.wrap_i64]
  omega
theorem zig_bits (n : Int) (h1 : -9223372036854775808 ≤ n) (h2 : n ≤ 9223372036854775807) :
    bits .xor .u64 (IntKind.u64.wrap (IntKind.u64.wrap n * 2)) (IntKind.u64.wrap (n / 9223372036854775808)) = (zig n : Int) := by
  unfold zig
  by_cases h : 0 ≤ n
  · obtain ⟨m, rfl⟩ := Int.eq_ofNat_of_zero_le h
    rw [if_pos h, IntKind.wrap_u64, IntKind.wrap_u64, IntKind.wrap_u64]
    have e1 : ((m : Int) % 18446744073709551616 * 2) % 18446744073709551616 = ((2 * m : Nat) : Int) := by omega
    have e2 : ((m : Int) / 9223372036854775808) % 18446744073709551616 = ((0 : Nat) : Int) := by omega
    rw [e1, e2, bits_xor_u64_nat _ _ (by omega) (by decide), Nat.xor_zero]
    omega
  · obtain ⟨m, hm⟩ := Int.eq_ofNat_of_zero_le (by omega : 0 ≤ -n)
    have hn : n = -(m : Int) := by omega
    subst hn
    rw [if_neg h, IntKind.wrap_u64, IntKind.wrap_u64, IntKind.wrap_u64]
    have e1 : (-(m : Int) % 18446744073709551616 * 2) % 18446744073709551616 = ((18446744073709551616 - 2 * m : Nat) : Int) := by omega
    have e2 : (-(m : Int) / 9223372036854775808) % 18446744073709551616 = ((18446744073709551615 : Nat) : Int) := by omega
    rw [e1, e2, bits_xor_u64_nat _ _ (by omega) (by decide), xor_ones _ (by omega)]
    omega
theorem zag_bits (n : Nat) (h : n < M64) : bits .xor .i64 ((n : Int) / 2) (wrap64 (-wrap64 (bits .and .u64 (n : Int) 1))) = zag n := by
  have hn : n < 18446744073709551616 := h
  have e0 : bits .and .u64 (n : Int) 1 = ((n % 2 : Nat) : Int) := by
    have := bits_and_u64_nat n 1 hn (by decide)
    rw [Nat.and_one_is_mod] at this
    exact this
  rw [e0]
  unfold zag
  have e1 : ((n : Int) / 2) = ((n / 2 : Nat) : Int) := by omega
  rw [e1]
  by_cases h2 : n % 2 = 0
  · rw [if_pos h2, h2]
    have e2 : wrap64 (-wrap64 ((0 : Nat) : Int)) = 0 := by unfold wrap64; omega
    rw [e2, xor_i64_zero _ (by omega)]
  · rw [if_neg h2, show n % 2 = 1 by omega]
    have e2 : wrap64 (-wrap64 ((1 : Nat) : Int)) = -1 := by unfold wrap64; omega
    rw [e2, xor_i64_comm, i64_not _ (by omega)]
    omega
theorem deltaZig (n : Int) (w : World) (h1 : -9223372036854775808 ≤ n) (h2 : n ≤ 9223372036854775807) : Calls Try.prog 9 #[.int .i64 n] w fun e w' => e = .returned (.int .u64 (zig n)) ∧ w = w' := by
  have hz := Lib.hid (zig_bits n h1 h2)
  go_enter Try.func9, Try.ntmps9
  go_wp2
  go_ret
  exact ⟨ret_int hz.out, rfl⟩
theorem deltaZag (n : Nat) (w : World) (h : n < M64) : Calls Try.prog 11 #[.int .u64 n] w fun e w' => e = .returned (.int .i64 (zag n)) ∧ w = w' := by
  have hz := Lib.hid (zag_bits n h)
  have h2 : (n : Int) ≤ 18446744073709551615 := by unfold M64 at h; omega
  go_enter Try.func11, Try.ntmps11
  go_wp2
  go_ret
  exact ⟨ret_int hz.out, rfl⟩
/-! ## Deltas and sums of lists -/
/-- The number with a sign that 64 bits are. -/
def sgn (x : Nat) : Int := if x < 9223372036854775808 then x else (x : Int) - 18446744073709551616
def deltaOf (last n : Nat) : Nat := zig (sgn ((n + (M64 - last)) % M64))
def deltas : Nat → List Nat → List Nat
  | _, [] => []
  | last, n :: l => deltaOf last n :: deltas n l
def addZ (last u : Nat) : Nat := (((last : Int) + zag u) % 18446744073709551616).toNat
def sums : Nat → List Nat → List Nat
  | _, [] => []
  | last, u :: l => addZ last u :: sums (addZ last u) l
theorem sgn_in (x : Nat) (h : x < M64) : -9223372036854775808 ≤ sgn x ∧ sgn x ≤ 9223372036854775807 := by unfold M64 at h; unfold sgn; split <;> omega
theorem deltaOf_lt (a b : Nat) : deltaOf a b < M64 := by
  unfold deltaOf
  have := sgn_in _ (Nat.mod_lt (b + (M64 - a)) (by decide : M64 > 0))
  exact zig_lt _ this.1 this.2
theorem addZ_lt (a b : Nat) : addZ a b < M64 := by unfold addZ M64; omega
theorem addZ_delta (a b : Nat) (ha : a < M64) (hb : b < M64) : addZ a (deltaOf a b) = b := by
  unfold addZ deltaOf
  rw [zag_zig]
  unfold M64 at *
  unfold sgn
  split <;> omega
theorem delta_addZ (a u : Nat) (ha : a < M64) (hu : u < M64) : deltaOf a (addZ a u) = u := by
  have hz := zag_in u hu
  unfold deltaOf addZ
  have : sgn (((((a : Int) + zag u) % 18446744073709551616).toNat + (M64 - a)) % M64) = zag u := by
    unfold M64 at *
    unfold sgn
    split <;> omega
  rw [this, zig_zag]
theorem sums_deltas (l : List Nat) (hl : ∀ n ∈ l, n < M64) : ∀ last, last < M64 → sums last (deltas last l) = l := by
  induction l with
  | nil => intro _ _; rfl
  | cons n l ih =>
    intro last h
    have hn := hl n (by simp)
    rw [deltas, sums, addZ_delta _ _ h hn, ih (fun m hm => hl m (by simp [hm])) n hn]
theorem deltas_sums (l : List Nat) (hl : ∀ n ∈ l, n < M64) : ∀ last, last < M64 → deltas last (sums last l) = l := by
  induction l with
  | nil => intro _ _; rfl
  | cons n l ih =>
    intro last h
    have hn := hl n (by simp)
    rw [sums, deltas, delta_addZ _ _ h hn, ih (fun m hm => hl m (by simp [hm])) _ (addZ_lt _ _)]
theorem deltas_length (l : List Nat) (a : Nat) : (deltas a l).length = l.length := by
  induction l generalizing a with
  | nil => rfl
  | cons n l ih => simp [deltas, ih]
theorem sums_length (l : List Nat) (a : Nat) : (sums a l).length = l.length := by
  induction l generalizing a with
  | nil => rfl
  | cons n l ih => simp [sums, ih]
theorem deltas_lt (l : List Nat) (a : Nat) : ∀ n ∈ deltas a l, n < M64 := by
  induction l generalizing a with
  | nil => simp [deltas]
  | cons n l ih => intro m hm; simp only [deltas, List.mem_cons] at hm; rcases hm with rfl | hm; exact deltaOf_lt _ _; exact ih _ _ hm
theorem sums_lt (l : List Nat) (a : Nat) : ∀ n ∈ sums a l, n < M64 := by
  induction l generalizing a with
  | nil => simp [sums]
  | cons n l ih => intro m hm; simp only [sums, List.mem_cons] at hm; rcases hm with rfl | hm; exact addZ_lt _ _; exact ih _ _ hm
end Go.Proofs.Ytdlbgmkigfbfbaa
