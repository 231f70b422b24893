/-
  The checksum's arithmetic: plain numbers, no Go in sight.
-/
import Derived.Test.YtebgcehcnenjiaaDoorRows
import Derived.Test.YtebgcehcnenjiaaDoorKit
import Derived.IntWalk
import Derived.Laws.BitsLemmas
import Derived.Deep.MidRow
namespace Go.Proofs.YtebgcehcnenjiaaDoor
open Go.RowKit
set_option linter.unusedVariables false
set_option linter.unusedSimpArgs false
def half (n : Nat) : Nat := if n % 2 = 1 then (n / 2) ^^^ 3988292384 else n / 2
def halves : Nat → Nat → Nat
  | 0, n => n
  | k + 1, n => half (halves k n)
def entry (n : Nat) : Nat := halves 8 n
def M32 : Nat := 4294967296
theorem wraps_u32 (n : Int) (h1 : 0 ≤ n) (h2 : n < 4294967296) : IntKind.u32.wrap n = n := by rw [IntKind.wrap_u32]; omega
theorem and_u32 (a b : Nat) (ha : a < 4294967296) (hb : b < 4294967296) : bits .and .u32 a b = ((a &&& b : Nat) : Int) := by
  exact (bits_nat .u32 32 (by decide) (fun n h1 h2 => wraps_u32 n h1 (by have : (2 : Int) ^ 32 = 4294967296 := by decide
                                                                         omega)) a b (by simpa using ha) (by simpa using hb)).1
theorem xor_u32 (a b : Nat) (ha : a < 4294967296) (hb : b < 4294967296) : bits .xor .u32 a b = ((a ^^^ b : Nat) : Int) := by
  show IntKind.u32.wrap ((BitVec.ofInt 32 a ^^^ BitVec.ofInt 32 b).toNat : Int) = _
  rw [BitVec.ofInt_natCast, BitVec.ofInt_natCast, BitVec.toNat_xor, BitVec.toNat_ofNat, BitVec.toNat_ofNat, Nat.mod_eq_of_lt ha, Nat.mod_eq_of_lt hb]
  have := Nat.xor_lt_two_pow (n := 32) (x := a) (y := b) ha hb
  exact wraps_u32 _ (by omega) (by omega)
theorem half_lt (n : Nat) (h : n < 4294967296) : half n < 4294967296 := by
  unfold half
  split
  · exact Nat.xor_lt_two_pow (n := 32) (by show _ < 4294967296; omega) (by decide)
  · omega
theorem halves_lt (k n : Nat) (h : n < 4294967296) : halves k n < 4294967296 := by
  induction k with
  | zero => exact h
  | succ k ih => exact half_lt _ ih
theorem zero23 : ∀ w : World, (zeroValue 72).run Tryd.prog w = .ok (.agg (Array.replicate 256 (.int .u32 0))) w := fun w => by kernel_rfl
theorem info23 : (Tryd.prog.info? 72).map (·.size) = some 256 := by kernel_rfl
theorem under23 : Tryd.prog.underlying 72 = some (.array 256 41) := by kernel_rfl
end Go.Proofs.YtebgcehcnenjiaaDoor
