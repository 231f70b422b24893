/-
  Where there are no places.
-/
import Derived.Test.YtoimipcnllmneaaSlots
namespace Go.Proofs.Ytoimipcnllmneaa
open Go.RowKit
set_option linter.unusedVariables false
set_option linter.unusedSimpArgs false
theorem slNilMay (j t : Int) (w : World) : Calls Try.prog 25 #[.pointer none, .int .i64 j, .int .u64 t] w fun e w' => e = .returned (.int .i64 15) ∧ w = w' := by
  go_enter Try.func25, Try.ntmps25
  go_wp2
  go_ret
  exact ⟨rfl, rfl⟩
theorem slNilGet (j t : Int) (w : World) : Calls Try.prog 13 #[.pointer none, .int .i64 j, .int .u64 t] w fun e w' => e = .returned (.tuple #[.int .u64 0, .int .i64 15]) ∧ w = w' := by
  go_enter Try.func13, Try.ntmps13
  go_wp2_with fail
  refine (slNilMay j t w).mono ?_
  rintro e w' ⟨rfl, rfl⟩
  go_wp2
  go_ret2
  exact ⟨rfl, rfl⟩
theorem slNilHas (j t : Int) (w : World) : Calls Try.prog 15 #[.pointer none, .int .i64 j, .int .u64 t] w fun e w' => e = .returned (.bool false) ∧ w = w' := by
  go_enter Try.func15, Try.ntmps15
  go_wp2_with fail
  refine (slNilMay j t w).mono ?_
  rintro e w' ⟨rfl, rfl⟩
  go_wp2
  go_ret
  exact ⟨rfl, rfl⟩
theorem slNilFree (t : Int) (w : World) : Calls Try.prog 14 #[.pointer none, .int .u64 t] w fun e w' => e = .returned (.bool false) ∧ ∃ n, w' = w.drewN n := by
  go_enter Try.func14, Try.ntmps14
  go_wp2
  go_quiet (fail)
  go_wp2
  go_ret
  exact ⟨rfl, _, rfl⟩
theorem slNilPut (t v : Int) (w : World) : Calls Try.prog 12 #[.pointer none, .int .u64 t, .int .u64 v] w fun e w' => e = .returned (.int .i64 15) ∧ w = w' := by
  go_enter Try.func12, Try.ntmps12
  go_wp2
  go_ret
  exact ⟨rfl, rfl⟩
theorem slNilAll (w : World) : Calls Try.prog 16 #[.pointer none] w fun e w' => e = .returned (.slice none 0 0) ∧ w = w' := by
  go_enter Try.func16, Try.ntmps16
  go_wp2
  go_ret
  exact ⟨rfl, rfl⟩
end Go.Proofs.Ytoimipcnllmneaa
