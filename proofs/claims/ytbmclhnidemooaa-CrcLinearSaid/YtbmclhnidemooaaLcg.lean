import Derived.Test.YtbmclhnidemooaaBy
namespace Go.Proofs.Ytbmclhnidemooaa
open Go.RowKit
set_option linter.unusedVariables false
def lcg (n : Nat) : Nat := (n * 1664525 + 1013904223) % 4294967296
def its : Nat → Nat → Nat
  | 0, n => n
  | k + 1, n => lcg (its k n)
theorem its_lt (k n : Nat) (h : n < 4294967296) : its k n < 4294967296 := by
  cases k with
  | zero => exact h
  | succ k => exact Nat.mod_lt _ (by decide)
def rowL (n k : Nat) : List Nat := (List.range k).map fun i => its (i + 1) n
theorem rowL_length (n k : Nat) : (rowL n k).length = k := by simp [rowL]
theorem rowL_next (n k : Nat) : cellsU (rowL n k) ++ [.int .u32 (its (k + 1) n : Nat)] = cellsU (rowL n (k + 1)) := by simp [cellsU, rowL, List.range_succ]
theorem rowL_isT (n : Nat) (h : n < 4294967296) : IsT (rowL n 256) := ⟨rowL_length n 256, fun m hm => by
  obtain ⟨i, _, rfl⟩ := List.mem_map.1 hm
  exact its_lt _ n h⟩
theorem lcg_wrap (m : Nat) : IntKind.u32.wrap (IntKind.u32.wrap ((m : Int) * 1664525) + 1013904223) = (lcg m : Nat) := by
  rw [IntKind.wrap_u32, IntKind.wrap_u32]; unfold lcg; omega
end Go.Proofs.Ytbmclhnidemooaa
