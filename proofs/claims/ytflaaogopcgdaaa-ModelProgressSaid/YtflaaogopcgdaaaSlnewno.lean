import Derived.Test.YtflaaogopcgdaaaSlnew
namespace Go.Proofs.Ytflaaogopcgdaaa
open Go.RowKit
set_option linter.unusedVariables false
set_option linter.unusedSimpArgs false
theorem slotsNewNo (p r : Int) (w : World) (h : ¬ (1 ≤ p ∧ p ≤ 64 ∧ 1 ≤ r ∧ r ≤ 8)) :
    Calls Try.prog 35 #[.int .i64 p, .int .i64 r] w fun e w' => e = .returned (.tuple #[.pointer none, .int .i64 1]) ∧ w = w' := by
  by_cases h1 : p < 1
  · have e1 : decide (p < 1) = true := by simpa using h1
    clear h h1
    go_enter Try.func35, Try.ntmps35
    go_wp2
    go_ret2
    exact ⟨rfl, rfl⟩
  have e1 : decide (p < 1) = false := by simpa using h1
  by_cases h2 : 64 < p
  · have e2 : decide (64 < p) = true := by simpa using h2
    clear h h1 h2
    go_enter Try.func35, Try.ntmps35
    go_wp2
    go_ret2
    exact ⟨rfl, rfl⟩
  have e2 : decide (64 < p) = false := by simpa using h2
  by_cases h3 : r < 1
  · have e3 : decide (r < 1) = true := by simpa using h3
    clear h h1 h2 h3
    go_enter Try.func35, Try.ntmps35
    go_wp2
    go_ret2
    exact ⟨rfl, rfl⟩
  have e3 : decide (r < 1) = false := by simpa using h3
  have e4 : decide (8 < r) = true := by simp; omega
  clear h h1 h2 h3
  go_enter Try.func35, Try.ntmps35
  go_wp2
  go_ret2
  exact ⟨rfl, rfl⟩
end Go.Proofs.Ytflaaogopcgdaaa
