import Derived.Test.YtflaaogopcgdaaaRows
import Derived.Test.YtflaaogopcgdaaaQuiet
namespace Go.Proofs.Ytflaaogopcgdaaa
open Go.RowKit
set_option linter.unusedVariables false
set_option linter.unusedSimpArgs false
theorem Try.infoU64 : (Try.prog.info? 36).map (fun i => (i.zero, i.size, i.bytes)) = some (some (.int .u64 0), 1, 8) := by kernel_rfl
def cells64 (l : List Nat) : List Value := l.map fun (n : Nat) => Value.int .u64 (n : Int)
theorem cells64_push (d : List Nat) (n : Nat) : cells64 d ++ [.int .u64 (n : Int)] = cells64 (d ++ [n]) := by simp [cells64]
theorem cells64_get {l : List Nat} {k n : Nat} (h : l[k]? = some n) : (cells64 l)[k]? = some (.int .u64 (n : Int)) := by simp [cells64, h]
theorem cells64_length (l : List Nat) : (cells64 l).length = l.length := by simp [cells64]
theorem cells64_one (l : List Nat) : ∀ u ∈ cells64 l, u.oneCell' = true := fun u hu => by
  obtain ⟨n, _, rfl⟩ := List.mem_map.1 hu; rfl
end Go.Proofs.Ytflaaogopcgdaaa
